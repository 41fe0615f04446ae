/- instr: the reference's Check; both for any instruction. -/
import Derived.Test.YtajkccigmiegkaaDoorICheck
set_option linter.unusedVariables false
namespace Go.Proofs.YtajkccigmiegkaaDoor
open Go.RowKit

theorem isReg_lt (a : Int) : isReg a = (!decide (a < 0) && !decide (7 < a)) := by
  unfold isReg
  by_cases h1 : a < 0
  · rw [decide_eq_true h1, decide_eq_false (p := 0 ≤ a) (by omega)]; rfl
  · rw [decide_eq_false h1, decide_eq_true (p := 0 ≤ a) (by omega)]
    by_cases h2 : 7 < a
    · rw [decide_eq_true h2, decide_eq_false (p := a < 8) (by omega)]; rfl
    · rw [decide_eq_false h2, decide_eq_true (p := a < 8) (by omega)]; rfl

set_option maxHeartbeats 4000000 in
set_option maxRecDepth 100000 in
theorem rcheck_f0 (op lo hi a b c : Int) (w : World) (hF : ∀ W, Calls Tryd.prog 18 #[.int .i64 op] W fun e w' => e = .returned (.tuple #[.int .i64 0, .int .i64 0]) ∧ W = w') :
    Calls Tryd.prog 16 #[inV op a b c] w fun e w' => e = .returned (.int .i64 (chkB 0 lo hi a b c)) ∧ Below w.heap.size w w' := by
  obtain ⟨R, hR⟩ : ∃ R, R = chkB 0 lo hi a b c := ⟨_, rfl⟩
  rw [← hR]
  unfold chkB at hR
  rw [isReg_lt a, isReg_lt b, isReg_lt c, show useA 0 = false from rfl, show useB 0 = false from rfl, show useC 0 = false from rfl, show useN 0 = false from rfl] at hR
  obtain ⟨a0, ha0⟩ : ∃ a0, (a != 0) = a0 := ⟨_, rfl⟩
  obtain ⟨b0, hb0⟩ : ∃ b0, (b != 0) = b0 := ⟨_, rfl⟩
  obtain ⟨c0, hc0⟩ : ∃ c0, (c != 0) = c0 := ⟨_, rfl⟩
  obtain ⟨al, hal⟩ : ∃ x, decide (a < 0) = x := ⟨_, rfl⟩
  obtain ⟨ah, hah⟩ : ∃ x, decide (7 < a) = x := ⟨_, rfl⟩
  obtain ⟨bl, hbl⟩ : ∃ x, decide (b < 0) = x := ⟨_, rfl⟩
  obtain ⟨bh, hbh⟩ : ∃ x, decide (7 < b) = x := ⟨_, rfl⟩
  obtain ⟨cl, hcl⟩ : ∃ x, decide (c < 0) = x := ⟨_, rfl⟩
  obtain ⟨ch, hch⟩ : ∃ x, decide (7 < c) = x := ⟨_, rfl⟩
  rw [ha0, hb0, hc0, hal, hah, hbl, hbh] at hR
  have HF := Lib.hid hF
  have HA : Hid (∀ W, Calls Tryd.prog 52 #[.int .i64 0] W fun e w' => e = .returned (.bool false) ∧ W = w') := Lib.hid fun W => (hasA_any 0 (by decide) W).mono fun _ _ h => ⟨h.1, h.2.symm⟩
  have HB : Hid (∀ W, Calls Tryd.prog 53 #[.int .i64 0] W fun e w' => e = .returned (.bool false) ∧ W = w') := Lib.hid fun W => (hasB_any 0 (by decide) W).mono fun _ _ h => ⟨h.1, h.2.symm⟩
  have HC : Hid (∀ W, Calls Tryd.prog 54 #[.int .i64 0] W fun e w' => e = .returned (.bool false) ∧ W = w') := Lib.hid fun W => (hasC_any 0 (by decide) W).mono fun _ _ h => ⟨h.1, h.2.symm⟩
  have HR := Lib.hid hR
  clear hF hR
  have hcase : (a0 = true) ∨ (a0 = false ∧ b0 = true) ∨ (a0 = false ∧ b0 = false ∧ c0 = true) ∨ (a0 = false ∧ b0 = false ∧ c0 = false ∧ al = true) ∨ (a0 = false ∧ b0 = false ∧ c0 = false ∧ al = false ∧ ah = true) ∨ (a0 = false ∧ b0 = false ∧ c0 = false ∧ al = false ∧ ah = false ∧ bl = true) ∨ (a0 = false ∧ b0 = false ∧ c0 = false ∧ al = false ∧ ah = false ∧ bl = false ∧ bh = true) ∨ (a0 = false ∧ b0 = false ∧ c0 = false ∧ al = false ∧ ah = false ∧ bl = false ∧ bh = false) := by
    cases a0 <;> cases b0 <;> cases c0 <;> cases al <;> cases ah <;> cases bl <;> cases bh <;> simp
  rcases hcase with rfl | ⟨rfl, rfl⟩ | ⟨rfl, rfl, rfl⟩ | ⟨rfl, rfl, rfl, rfl⟩ | ⟨rfl, rfl, rfl, rfl, rfl⟩ | ⟨rfl, rfl, rfl, rfl, rfl, rfl⟩ | ⟨rfl, rfl, rfl, rfl, rfl, rfl, rfl⟩ | ⟨rfl, rfl, rfl, rfl, rfl, rfl, rfl⟩
  all_goals
    go_enter Tryd.func16, Tryd.ntmps16
    go_wp2_with (first
      | (go_at_call 18; refine (HF.out _).mono ?_; rintro e w' ⟨rfl, rfl⟩)
      | (go_at_call 52; refine (HA.out _).mono ?_; rintro e w' ⟨rfl, rfl⟩)
      | (go_at_call 53; refine (HB.out _).mono ?_; rintro e w' ⟨rfl, rfl⟩)
      | (go_at_call 54; refine (HC.out _).mono ?_; rintro e w' ⟨rfl, rfl⟩))
  all_goals (go_ret; exact ⟨by rw [HR.out]; rfl, below_alloc0 _ _⟩)
set_option maxHeartbeats 4000000 in
set_option maxRecDepth 100000 in
theorem rcheck_f1 (op lo hi a b c : Int) (w : World) (hF : ∀ W, Calls Tryd.prog 18 #[.int .i64 op] W fun e w' => e = .returned (.tuple #[.int .i64 1, .int .i64 0]) ∧ W = w') :
    Calls Tryd.prog 16 #[inV op a b c] w fun e w' => e = .returned (.int .i64 (chkB 1 lo hi a b c)) ∧ Below w.heap.size w w' := by
  obtain ⟨R, hR⟩ : ∃ R, R = chkB 1 lo hi a b c := ⟨_, rfl⟩
  rw [← hR]
  unfold chkB at hR
  rw [isReg_lt a, isReg_lt b, isReg_lt c, show useA 1 = true from rfl, show useB 1 = false from rfl, show useC 1 = false from rfl, show useN 1 = false from rfl] at hR
  obtain ⟨a0, ha0⟩ : ∃ a0, (a != 0) = a0 := ⟨_, rfl⟩
  obtain ⟨b0, hb0⟩ : ∃ b0, (b != 0) = b0 := ⟨_, rfl⟩
  obtain ⟨c0, hc0⟩ : ∃ c0, (c != 0) = c0 := ⟨_, rfl⟩
  obtain ⟨al, hal⟩ : ∃ x, decide (a < 0) = x := ⟨_, rfl⟩
  obtain ⟨ah, hah⟩ : ∃ x, decide (7 < a) = x := ⟨_, rfl⟩
  obtain ⟨bl, hbl⟩ : ∃ x, decide (b < 0) = x := ⟨_, rfl⟩
  obtain ⟨bh, hbh⟩ : ∃ x, decide (7 < b) = x := ⟨_, rfl⟩
  obtain ⟨cl, hcl⟩ : ∃ x, decide (c < 0) = x := ⟨_, rfl⟩
  obtain ⟨ch, hch⟩ : ∃ x, decide (7 < c) = x := ⟨_, rfl⟩
  rw [ha0, hb0, hc0, hal, hah, hbl, hbh] at hR
  have HF := Lib.hid hF
  have HA : Hid (∀ W, Calls Tryd.prog 52 #[.int .i64 1] W fun e w' => e = .returned (.bool true) ∧ W = w') := Lib.hid fun W => (hasA_any 1 (by decide) W).mono fun _ _ h => ⟨h.1, h.2.symm⟩
  have HB : Hid (∀ W, Calls Tryd.prog 53 #[.int .i64 1] W fun e w' => e = .returned (.bool false) ∧ W = w') := Lib.hid fun W => (hasB_any 1 (by decide) W).mono fun _ _ h => ⟨h.1, h.2.symm⟩
  have HC : Hid (∀ W, Calls Tryd.prog 54 #[.int .i64 1] W fun e w' => e = .returned (.bool false) ∧ W = w') := Lib.hid fun W => (hasC_any 1 (by decide) W).mono fun _ _ h => ⟨h.1, h.2.symm⟩
  have HR := Lib.hid hR
  clear hF hR
  have hcase : (b0 = true) ∨ (b0 = false ∧ c0 = true) ∨ (b0 = false ∧ c0 = false ∧ al = true) ∨ (b0 = false ∧ c0 = false ∧ al = false ∧ ah = true) ∨ (b0 = false ∧ c0 = false ∧ al = false ∧ ah = false ∧ bl = true) ∨ (b0 = false ∧ c0 = false ∧ al = false ∧ ah = false ∧ bl = false ∧ bh = true) ∨ (b0 = false ∧ c0 = false ∧ al = false ∧ ah = false ∧ bl = false ∧ bh = false) := by
    cases b0 <;> cases c0 <;> cases al <;> cases ah <;> cases bl <;> cases bh <;> simp
  rcases hcase with rfl | ⟨rfl, rfl⟩ | ⟨rfl, rfl, rfl⟩ | ⟨rfl, rfl, rfl, rfl⟩ | ⟨rfl, rfl, rfl, rfl, rfl⟩ | ⟨rfl, rfl, rfl, rfl, rfl, rfl⟩ | ⟨rfl, rfl, rfl, rfl, rfl, rfl⟩
  all_goals
    go_enter Tryd.func16, Tryd.ntmps16
    go_wp2_with (first
      | (go_at_call 18; refine (HF.out _).mono ?_; rintro e w' ⟨rfl, rfl⟩)
      | (go_at_call 52; refine (HA.out _).mono ?_; rintro e w' ⟨rfl, rfl⟩)
      | (go_at_call 53; refine (HB.out _).mono ?_; rintro e w' ⟨rfl, rfl⟩)
      | (go_at_call 54; refine (HC.out _).mono ?_; rintro e w' ⟨rfl, rfl⟩))
  all_goals (go_ret; exact ⟨by rw [HR.out]; rfl, below_alloc0 _ _⟩)
set_option maxHeartbeats 4000000 in
set_option maxRecDepth 100000 in
theorem rcheck_f2 (op lo hi a b c : Int) (w : World) (hF : ∀ W, Calls Tryd.prog 18 #[.int .i64 op] W fun e w' => e = .returned (.tuple #[.int .i64 2, .int .i64 0]) ∧ W = w') :
    Calls Tryd.prog 16 #[inV op a b c] w fun e w' => e = .returned (.int .i64 (chkB 2 lo hi a b c)) ∧ Below w.heap.size w w' := by
  obtain ⟨R, hR⟩ : ∃ R, R = chkB 2 lo hi a b c := ⟨_, rfl⟩
  rw [← hR]
  unfold chkB at hR
  rw [isReg_lt a, isReg_lt b, isReg_lt c, show useA 2 = true from rfl, show useB 2 = true from rfl, show useC 2 = false from rfl, show useN 2 = false from rfl] at hR
  obtain ⟨a0, ha0⟩ : ∃ a0, (a != 0) = a0 := ⟨_, rfl⟩
  obtain ⟨b0, hb0⟩ : ∃ b0, (b != 0) = b0 := ⟨_, rfl⟩
  obtain ⟨c0, hc0⟩ : ∃ c0, (c != 0) = c0 := ⟨_, rfl⟩
  obtain ⟨al, hal⟩ : ∃ x, decide (a < 0) = x := ⟨_, rfl⟩
  obtain ⟨ah, hah⟩ : ∃ x, decide (7 < a) = x := ⟨_, rfl⟩
  obtain ⟨bl, hbl⟩ : ∃ x, decide (b < 0) = x := ⟨_, rfl⟩
  obtain ⟨bh, hbh⟩ : ∃ x, decide (7 < b) = x := ⟨_, rfl⟩
  obtain ⟨cl, hcl⟩ : ∃ x, decide (c < 0) = x := ⟨_, rfl⟩
  obtain ⟨ch, hch⟩ : ∃ x, decide (7 < c) = x := ⟨_, rfl⟩
  rw [ha0, hb0, hc0, hal, hah, hbl, hbh] at hR
  have HF := Lib.hid hF
  have HA : Hid (∀ W, Calls Tryd.prog 52 #[.int .i64 2] W fun e w' => e = .returned (.bool true) ∧ W = w') := Lib.hid fun W => (hasA_any 2 (by decide) W).mono fun _ _ h => ⟨h.1, h.2.symm⟩
  have HB : Hid (∀ W, Calls Tryd.prog 53 #[.int .i64 2] W fun e w' => e = .returned (.bool true) ∧ W = w') := Lib.hid fun W => (hasB_any 2 (by decide) W).mono fun _ _ h => ⟨h.1, h.2.symm⟩
  have HC : Hid (∀ W, Calls Tryd.prog 54 #[.int .i64 2] W fun e w' => e = .returned (.bool false) ∧ W = w') := Lib.hid fun W => (hasC_any 2 (by decide) W).mono fun _ _ h => ⟨h.1, h.2.symm⟩
  have HR := Lib.hid hR
  clear hF hR
  have hcase : (c0 = true) ∨ (c0 = false ∧ al = true) ∨ (c0 = false ∧ al = false ∧ ah = true) ∨ (c0 = false ∧ al = false ∧ ah = false ∧ bl = true) ∨ (c0 = false ∧ al = false ∧ ah = false ∧ bl = false ∧ bh = true) ∨ (c0 = false ∧ al = false ∧ ah = false ∧ bl = false ∧ bh = false) := by
    cases c0 <;> cases al <;> cases ah <;> cases bl <;> cases bh <;> simp
  rcases hcase with rfl | ⟨rfl, rfl⟩ | ⟨rfl, rfl, rfl⟩ | ⟨rfl, rfl, rfl, rfl⟩ | ⟨rfl, rfl, rfl, rfl, rfl⟩ | ⟨rfl, rfl, rfl, rfl, rfl⟩
  all_goals
    go_enter Tryd.func16, Tryd.ntmps16
    go_wp2_with (first
      | (go_at_call 18; refine (HF.out _).mono ?_; rintro e w' ⟨rfl, rfl⟩)
      | (go_at_call 52; refine (HA.out _).mono ?_; rintro e w' ⟨rfl, rfl⟩)
      | (go_at_call 53; refine (HB.out _).mono ?_; rintro e w' ⟨rfl, rfl⟩)
      | (go_at_call 54; refine (HC.out _).mono ?_; rintro e w' ⟨rfl, rfl⟩))
  all_goals (go_ret; exact ⟨by rw [HR.out]; rfl, below_alloc0 _ _⟩)
set_option maxHeartbeats 4000000 in
set_option maxRecDepth 100000 in
theorem rcheck_f3 (op lo hi a b c : Int) (w : World) (hF : ∀ W, Calls Tryd.prog 18 #[.int .i64 op] W fun e w' => e = .returned (.tuple #[.int .i64 3, .int .i64 0]) ∧ W = w') :
    Calls Tryd.prog 16 #[inV op a b c] w fun e w' => e = .returned (.int .i64 (chkB 3 lo hi a b c)) ∧ Below w.heap.size w w' := by
  obtain ⟨R, hR⟩ : ∃ R, R = chkB 3 lo hi a b c := ⟨_, rfl⟩
  rw [← hR]
  unfold chkB at hR
  rw [isReg_lt a, isReg_lt b, isReg_lt c, show useA 3 = true from rfl, show useB 3 = true from rfl, show useC 3 = true from rfl, show useN 3 = false from rfl] at hR
  obtain ⟨a0, ha0⟩ : ∃ a0, (a != 0) = a0 := ⟨_, rfl⟩
  obtain ⟨b0, hb0⟩ : ∃ b0, (b != 0) = b0 := ⟨_, rfl⟩
  obtain ⟨c0, hc0⟩ : ∃ c0, (c != 0) = c0 := ⟨_, rfl⟩
  obtain ⟨al, hal⟩ : ∃ x, decide (a < 0) = x := ⟨_, rfl⟩
  obtain ⟨ah, hah⟩ : ∃ x, decide (7 < a) = x := ⟨_, rfl⟩
  obtain ⟨bl, hbl⟩ : ∃ x, decide (b < 0) = x := ⟨_, rfl⟩
  obtain ⟨bh, hbh⟩ : ∃ x, decide (7 < b) = x := ⟨_, rfl⟩
  obtain ⟨cl, hcl⟩ : ∃ x, decide (c < 0) = x := ⟨_, rfl⟩
  obtain ⟨ch, hch⟩ : ∃ x, decide (7 < c) = x := ⟨_, rfl⟩
  rw [ha0, hb0, hc0, hal, hah, hbl, hbh, hcl, hch] at hR
  have HF := Lib.hid hF
  have HA : Hid (∀ W, Calls Tryd.prog 52 #[.int .i64 3] W fun e w' => e = .returned (.bool true) ∧ W = w') := Lib.hid fun W => (hasA_any 3 (by decide) W).mono fun _ _ h => ⟨h.1, h.2.symm⟩
  have HB : Hid (∀ W, Calls Tryd.prog 53 #[.int .i64 3] W fun e w' => e = .returned (.bool true) ∧ W = w') := Lib.hid fun W => (hasB_any 3 (by decide) W).mono fun _ _ h => ⟨h.1, h.2.symm⟩
  have HC : Hid (∀ W, Calls Tryd.prog 54 #[.int .i64 3] W fun e w' => e = .returned (.bool true) ∧ W = w') := Lib.hid fun W => (hasC_any 3 (by decide) W).mono fun _ _ h => ⟨h.1, h.2.symm⟩
  have HR := Lib.hid hR
  clear hF hR
  have hcase : (al = true) ∨ (al = false ∧ ah = true) ∨ (al = false ∧ ah = false ∧ bl = true) ∨ (al = false ∧ ah = false ∧ bl = false ∧ bh = true) ∨ (al = false ∧ ah = false ∧ bl = false ∧ bh = false ∧ cl = true) ∨ (al = false ∧ ah = false ∧ bl = false ∧ bh = false ∧ cl = false ∧ ch = true) ∨ (al = false ∧ ah = false ∧ bl = false ∧ bh = false ∧ cl = false ∧ ch = false) := by
    cases al <;> cases ah <;> cases bl <;> cases bh <;> cases cl <;> cases ch <;> simp
  rcases hcase with rfl | ⟨rfl, rfl⟩ | ⟨rfl, rfl, rfl⟩ | ⟨rfl, rfl, rfl, rfl⟩ | ⟨rfl, rfl, rfl, rfl, rfl⟩ | ⟨rfl, rfl, rfl, rfl, rfl, rfl⟩ | ⟨rfl, rfl, rfl, rfl, rfl, rfl⟩
  all_goals
    go_enter Tryd.func16, Tryd.ntmps16
    go_wp2_with (first
      | (go_at_call 18; refine (HF.out _).mono ?_; rintro e w' ⟨rfl, rfl⟩)
      | (go_at_call 52; refine (HA.out _).mono ?_; rintro e w' ⟨rfl, rfl⟩)
      | (go_at_call 53; refine (HB.out _).mono ?_; rintro e w' ⟨rfl, rfl⟩)
      | (go_at_call 54; refine (HC.out _).mono ?_; rintro e w' ⟨rfl, rfl⟩))
  all_goals (go_ret; exact ⟨by rw [HR.out]; rfl, below_alloc0 _ _⟩)
set_option maxHeartbeats 4000000 in
set_option maxRecDepth 100000 in
theorem rcheck_f4 (op lo hi a b c : Int) (w : World) (hF : ∀ W, Calls Tryd.prog 18 #[.int .i64 op] W fun e w' => e = .returned (.tuple #[.int .i64 4, .int .i64 0]) ∧ W = w') (hL : ∀ W, Calls Tryd.prog 20 #[.int .i64 op] W fun e w' => e = .returned (.tuple #[.int .i64 lo, .int .i64 hi, .int .i64 0]) ∧ W = w') :
    Calls Tryd.prog 16 #[inV op a b c] w fun e w' => e = .returned (.int .i64 (chkB 4 lo hi a b c)) ∧ Below w.heap.size w w' := by
  obtain ⟨R, hR⟩ : ∃ R, R = chkB 4 lo hi a b c := ⟨_, rfl⟩
  rw [← hR]
  unfold chkB at hR
  rw [isReg_lt a, isReg_lt b, isReg_lt c, show useA 4 = true from rfl, show useB 4 = false from rfl, show useC 4 = false from rfl, show useN 4 = true from rfl] at hR
  obtain ⟨a0, ha0⟩ : ∃ a0, (a != 0) = a0 := ⟨_, rfl⟩
  obtain ⟨b0, hb0⟩ : ∃ b0, (b != 0) = b0 := ⟨_, rfl⟩
  obtain ⟨c0, hc0⟩ : ∃ c0, (c != 0) = c0 := ⟨_, rfl⟩
  obtain ⟨al, hal⟩ : ∃ x, decide (a < 0) = x := ⟨_, rfl⟩
  obtain ⟨ah, hah⟩ : ∃ x, decide (7 < a) = x := ⟨_, rfl⟩
  obtain ⟨bl, hbl⟩ : ∃ x, decide (b < 0) = x := ⟨_, rfl⟩
  obtain ⟨bh, hbh⟩ : ∃ x, decide (7 < b) = x := ⟨_, rfl⟩
  obtain ⟨cl, hcl⟩ : ∃ x, decide (c < lo) = x := ⟨_, rfl⟩
  obtain ⟨ch, hch⟩ : ∃ x, decide (hi < c) = x := ⟨_, rfl⟩
  rw [ha0, hb0, hc0, hal, hah, hbl, hbh, hcl, hch] at hR
  have HF := Lib.hid hF
  have HL := Lib.hid hL
  have HA : Hid (∀ W, Calls Tryd.prog 52 #[.int .i64 4] W fun e w' => e = .returned (.bool true) ∧ W = w') := Lib.hid fun W => (hasA_any 4 (by decide) W).mono fun _ _ h => ⟨h.1, h.2.symm⟩
  have HB : Hid (∀ W, Calls Tryd.prog 53 #[.int .i64 4] W fun e w' => e = .returned (.bool false) ∧ W = w') := Lib.hid fun W => (hasB_any 4 (by decide) W).mono fun _ _ h => ⟨h.1, h.2.symm⟩
  have HC : Hid (∀ W, Calls Tryd.prog 54 #[.int .i64 4] W fun e w' => e = .returned (.bool true) ∧ W = w') := Lib.hid fun W => (hasC_any 4 (by decide) W).mono fun _ _ h => ⟨h.1, h.2.symm⟩
  have HR := Lib.hid hR
  clear hF hR hL
  have hcase : (b0 = true) ∨ (b0 = false ∧ al = true) ∨ (b0 = false ∧ al = false ∧ ah = true) ∨ (b0 = false ∧ al = false ∧ ah = false ∧ bl = true) ∨ (b0 = false ∧ al = false ∧ ah = false ∧ bl = false ∧ bh = true) ∨ (b0 = false ∧ al = false ∧ ah = false ∧ bl = false ∧ bh = false ∧ cl = true) ∨ (b0 = false ∧ al = false ∧ ah = false ∧ bl = false ∧ bh = false ∧ cl = false ∧ ch = true) ∨ (b0 = false ∧ al = false ∧ ah = false ∧ bl = false ∧ bh = false ∧ cl = false ∧ ch = false) := by
    cases b0 <;> cases al <;> cases ah <;> cases bl <;> cases bh <;> cases cl <;> cases ch <;> simp
  rcases hcase with rfl | ⟨rfl, rfl⟩ | ⟨rfl, rfl, rfl⟩ | ⟨rfl, rfl, rfl, rfl⟩ | ⟨rfl, rfl, rfl, rfl, rfl⟩ | ⟨rfl, rfl, rfl, rfl, rfl, rfl⟩ | ⟨rfl, rfl, rfl, rfl, rfl, rfl, rfl⟩ | ⟨rfl, rfl, rfl, rfl, rfl, rfl, rfl⟩
  all_goals
    go_enter Tryd.func16, Tryd.ntmps16
    go_wp2_with (first
      | (go_at_call 18; refine (HF.out _).mono ?_; rintro e w' ⟨rfl, rfl⟩)
      | (go_at_call 52; refine (HA.out _).mono ?_; rintro e w' ⟨rfl, rfl⟩)
      | (go_at_call 53; refine (HB.out _).mono ?_; rintro e w' ⟨rfl, rfl⟩)
      | (go_at_call 54; refine (HC.out _).mono ?_; rintro e w' ⟨rfl, rfl⟩)
      | (go_at_call 20; refine (HL.out _).mono ?_; rintro e w' ⟨rfl, rfl⟩))
  all_goals (go_ret; exact ⟨by rw [HR.out]; rfl, below_alloc0 _ _⟩)
set_option maxHeartbeats 4000000 in
set_option maxRecDepth 100000 in
theorem rcheck_f5 (op lo hi a b c : Int) (w : World) (hF : ∀ W, Calls Tryd.prog 18 #[.int .i64 op] W fun e w' => e = .returned (.tuple #[.int .i64 5, .int .i64 0]) ∧ W = w') (hL : ∀ W, Calls Tryd.prog 20 #[.int .i64 op] W fun e w' => e = .returned (.tuple #[.int .i64 lo, .int .i64 hi, .int .i64 0]) ∧ W = w') :
    Calls Tryd.prog 16 #[inV op a b c] w fun e w' => e = .returned (.int .i64 (chkB 5 lo hi a b c)) ∧ Below w.heap.size w w' := by
  obtain ⟨R, hR⟩ : ∃ R, R = chkB 5 lo hi a b c := ⟨_, rfl⟩
  rw [← hR]
  unfold chkB at hR
  rw [isReg_lt a, isReg_lt b, isReg_lt c, show useA 5 = true from rfl, show useB 5 = true from rfl, show useC 5 = false from rfl, show useN 5 = true from rfl] at hR
  obtain ⟨a0, ha0⟩ : ∃ a0, (a != 0) = a0 := ⟨_, rfl⟩
  obtain ⟨b0, hb0⟩ : ∃ b0, (b != 0) = b0 := ⟨_, rfl⟩
  obtain ⟨c0, hc0⟩ : ∃ c0, (c != 0) = c0 := ⟨_, rfl⟩
  obtain ⟨al, hal⟩ : ∃ x, decide (a < 0) = x := ⟨_, rfl⟩
  obtain ⟨ah, hah⟩ : ∃ x, decide (7 < a) = x := ⟨_, rfl⟩
  obtain ⟨bl, hbl⟩ : ∃ x, decide (b < 0) = x := ⟨_, rfl⟩
  obtain ⟨bh, hbh⟩ : ∃ x, decide (7 < b) = x := ⟨_, rfl⟩
  obtain ⟨cl, hcl⟩ : ∃ x, decide (c < lo) = x := ⟨_, rfl⟩
  obtain ⟨ch, hch⟩ : ∃ x, decide (hi < c) = x := ⟨_, rfl⟩
  rw [ha0, hb0, hc0, hal, hah, hbl, hbh, hcl, hch] at hR
  have HF := Lib.hid hF
  have HL := Lib.hid hL
  have HA : Hid (∀ W, Calls Tryd.prog 52 #[.int .i64 5] W fun e w' => e = .returned (.bool true) ∧ W = w') := Lib.hid fun W => (hasA_any 5 (by decide) W).mono fun _ _ h => ⟨h.1, h.2.symm⟩
  have HB : Hid (∀ W, Calls Tryd.prog 53 #[.int .i64 5] W fun e w' => e = .returned (.bool true) ∧ W = w') := Lib.hid fun W => (hasB_any 5 (by decide) W).mono fun _ _ h => ⟨h.1, h.2.symm⟩
  have HC : Hid (∀ W, Calls Tryd.prog 54 #[.int .i64 5] W fun e w' => e = .returned (.bool true) ∧ W = w') := Lib.hid fun W => (hasC_any 5 (by decide) W).mono fun _ _ h => ⟨h.1, h.2.symm⟩
  have HR := Lib.hid hR
  clear hF hR hL
  have hcase : (al = true) ∨ (al = false ∧ ah = true) ∨ (al = false ∧ ah = false ∧ bl = true) ∨ (al = false ∧ ah = false ∧ bl = false ∧ bh = true) ∨ (al = false ∧ ah = false ∧ bl = false ∧ bh = false ∧ cl = true) ∨ (al = false ∧ ah = false ∧ bl = false ∧ bh = false ∧ cl = false ∧ ch = true) ∨ (al = false ∧ ah = false ∧ bl = false ∧ bh = false ∧ cl = false ∧ ch = false) := by
    cases al <;> cases ah <;> cases bl <;> cases bh <;> cases cl <;> cases ch <;> simp
  rcases hcase with rfl | ⟨rfl, rfl⟩ | ⟨rfl, rfl, rfl⟩ | ⟨rfl, rfl, rfl, rfl⟩ | ⟨rfl, rfl, rfl, rfl, rfl⟩ | ⟨rfl, rfl, rfl, rfl, rfl, rfl⟩ | ⟨rfl, rfl, rfl, rfl, rfl, rfl⟩
  all_goals
    go_enter Tryd.func16, Tryd.ntmps16
    go_wp2_with (first
      | (go_at_call 18; refine (HF.out _).mono ?_; rintro e w' ⟨rfl, rfl⟩)
      | (go_at_call 52; refine (HA.out _).mono ?_; rintro e w' ⟨rfl, rfl⟩)
      | (go_at_call 53; refine (HB.out _).mono ?_; rintro e w' ⟨rfl, rfl⟩)
      | (go_at_call 54; refine (HC.out _).mono ?_; rintro e w' ⟨rfl, rfl⟩)
      | (go_at_call 20; refine (HL.out _).mono ?_; rintro e w' ⟨rfl, rfl⟩))
  all_goals (go_ret; exact ⟨by rw [HR.out]; rfl, below_alloc0 _ _⟩)
set_option maxHeartbeats 4000000 in
set_option maxRecDepth 100000 in
theorem rcheck_f6 (op lo hi a b c : Int) (w : World) (hF : ∀ W, Calls Tryd.prog 18 #[.int .i64 op] W fun e w' => e = .returned (.tuple #[.int .i64 6, .int .i64 0]) ∧ W = w') (hL : ∀ W, Calls Tryd.prog 20 #[.int .i64 op] W fun e w' => e = .returned (.tuple #[.int .i64 lo, .int .i64 hi, .int .i64 0]) ∧ W = w') :
    Calls Tryd.prog 16 #[inV op a b c] w fun e w' => e = .returned (.int .i64 (chkB 6 lo hi a b c)) ∧ Below w.heap.size w w' := by
  obtain ⟨R, hR⟩ : ∃ R, R = chkB 6 lo hi a b c := ⟨_, rfl⟩
  rw [← hR]
  unfold chkB at hR
  rw [isReg_lt a, isReg_lt b, isReg_lt c, show useA 6 = false from rfl, show useB 6 = false from rfl, show useC 6 = false from rfl, show useN 6 = true from rfl] at hR
  obtain ⟨a0, ha0⟩ : ∃ a0, (a != 0) = a0 := ⟨_, rfl⟩
  obtain ⟨b0, hb0⟩ : ∃ b0, (b != 0) = b0 := ⟨_, rfl⟩
  obtain ⟨c0, hc0⟩ : ∃ c0, (c != 0) = c0 := ⟨_, rfl⟩
  obtain ⟨al, hal⟩ : ∃ x, decide (a < 0) = x := ⟨_, rfl⟩
  obtain ⟨ah, hah⟩ : ∃ x, decide (7 < a) = x := ⟨_, rfl⟩
  obtain ⟨bl, hbl⟩ : ∃ x, decide (b < 0) = x := ⟨_, rfl⟩
  obtain ⟨bh, hbh⟩ : ∃ x, decide (7 < b) = x := ⟨_, rfl⟩
  obtain ⟨cl, hcl⟩ : ∃ x, decide (c < lo) = x := ⟨_, rfl⟩
  obtain ⟨ch, hch⟩ : ∃ x, decide (hi < c) = x := ⟨_, rfl⟩
  rw [ha0, hb0, hc0, hal, hah, hbl, hbh, hcl, hch] at hR
  have HF := Lib.hid hF
  have HL := Lib.hid hL
  have HA : Hid (∀ W, Calls Tryd.prog 52 #[.int .i64 6] W fun e w' => e = .returned (.bool false) ∧ W = w') := Lib.hid fun W => (hasA_any 6 (by decide) W).mono fun _ _ h => ⟨h.1, h.2.symm⟩
  have HB : Hid (∀ W, Calls Tryd.prog 53 #[.int .i64 6] W fun e w' => e = .returned (.bool false) ∧ W = w') := Lib.hid fun W => (hasB_any 6 (by decide) W).mono fun _ _ h => ⟨h.1, h.2.symm⟩
  have HC : Hid (∀ W, Calls Tryd.prog 54 #[.int .i64 6] W fun e w' => e = .returned (.bool true) ∧ W = w') := Lib.hid fun W => (hasC_any 6 (by decide) W).mono fun _ _ h => ⟨h.1, h.2.symm⟩
  have HR := Lib.hid hR
  clear hF hR hL
  have hcase : (a0 = true) ∨ (a0 = false ∧ b0 = true) ∨ (a0 = false ∧ b0 = false ∧ al = true) ∨ (a0 = false ∧ b0 = false ∧ al = false ∧ ah = true) ∨ (a0 = false ∧ b0 = false ∧ al = false ∧ ah = false ∧ bl = true) ∨ (a0 = false ∧ b0 = false ∧ al = false ∧ ah = false ∧ bl = false ∧ bh = true) ∨ (a0 = false ∧ b0 = false ∧ al = false ∧ ah = false ∧ bl = false ∧ bh = false ∧ cl = true) ∨ (a0 = false ∧ b0 = false ∧ al = false ∧ ah = false ∧ bl = false ∧ bh = false ∧ cl = false ∧ ch = true) ∨ (a0 = false ∧ b0 = false ∧ al = false ∧ ah = false ∧ bl = false ∧ bh = false ∧ cl = false ∧ ch = false) := by
    cases a0 <;> cases b0 <;> cases al <;> cases ah <;> cases bl <;> cases bh <;> cases cl <;> cases ch <;> simp
  rcases hcase with rfl | ⟨rfl, rfl⟩ | ⟨rfl, rfl, rfl⟩ | ⟨rfl, rfl, rfl, rfl⟩ | ⟨rfl, rfl, rfl, rfl, rfl⟩ | ⟨rfl, rfl, rfl, rfl, rfl, rfl⟩ | ⟨rfl, rfl, rfl, rfl, rfl, rfl, rfl⟩ | ⟨rfl, rfl, rfl, rfl, rfl, rfl, rfl, rfl⟩ | ⟨rfl, rfl, rfl, rfl, rfl, rfl, rfl, rfl⟩
  all_goals
    go_enter Tryd.func16, Tryd.ntmps16
    go_wp2_with (first
      | (go_at_call 18; refine (HF.out _).mono ?_; rintro e w' ⟨rfl, rfl⟩)
      | (go_at_call 52; refine (HA.out _).mono ?_; rintro e w' ⟨rfl, rfl⟩)
      | (go_at_call 53; refine (HB.out _).mono ?_; rintro e w' ⟨rfl, rfl⟩)
      | (go_at_call 54; refine (HC.out _).mono ?_; rintro e w' ⟨rfl, rfl⟩)
      | (go_at_call 20; refine (HL.out _).mono ?_; rintro e w' ⟨rfl, rfl⟩))
  all_goals (go_ret; exact ⟨by rw [HR.out]; rfl, below_alloc0 _ _⟩)

/-- Check, for any instruction. -/
def chkZ (op a b c : Int) : Int := if 0 ≤ op ∧ op ≤ 26 then chkB (formN op.toNat) (lowN op.toNat) (highN op.toNat) a b c else 11
set_option maxRecDepth 100000 in
theorem check_any (op a b c : Int) (w : World) (hE : Env w) : Calls Tryd.prog 15 #[inV op a b c] w fun e w' => e = .returned (.int .i64 (chkZ op a b c)) ∧ Below w.heap.size w w' := by
  by_cases h : 0 ≤ op ∧ op ≤ 26
  · have e1 : chkZ op a b c = chkB (formN op.toNat) (lowN op.toNat) (highN op.toNat) a b c := if_pos h
    rw [e1]
    clear e1
    obtain ⟨k, rfl⟩ := Int.eq_ofNat_of_zero_le h.1
    have hk : k < 27 := by omega
    have hu : ∀ W, Below w.heap.size w W → W.rangeAt 0 (k * 4) (opL ⟨(wordN k).toArray⟩ (formN k) (lowN k) (highN k)) := fun W hb => (hE.below hb).row hk
    have hf := form_le k hk
    show Calls _ _ _ _ fun e w' => e = .returned (.int .i64 (chkB (formN k) (lowN k) (highN k) a b c)) ∧ _
    revert hu hf
    generalize formN k = f
    intro hu hf
    obtain rfl | rfl | rfl | rfl | rfl | rfl | rfl : f = 0 ∨ f = 1 ∨ f = 2 ∨ f = 3 ∨ f = 4 ∨ f = 5 ∨ f = 6 := by omega
    · exact check_f0 k _ _ _ a b c w hk hu
    · exact check_f1 k _ _ _ a b c w hk hu
    · exact check_f2 k _ _ _ a b c w hk hu
    · exact check_f3 k _ _ _ a b c w hk hu
    · exact check_f4 k _ _ _ a b c w hk hu
    · exact check_f5 k _ _ _ a b c w hk hu
    · exact check_f6 k _ _ _ a b c w hk hu
  · have e1 : chkZ op a b c = 11 := if_neg h
    rw [e1]
    have HI : Hid (∀ W, Calls Tryd.prog 46 #[.int .i64 op] W fun e w' => e = .returned (.bool false) ∧ W = w') := Lib.hid fun W => by rw [← isOp_out (op := op) (by omega)]; exact (isOp_any op W).mono fun _ _ h => ⟨h.1, h.2.symm⟩
    clear h e1 hE
    go_enter Tryd.func15, Tryd.ntmps15
    go_wp2_with (go_at_call 46; refine (HI.out _).mono ?_; rintro e w' ⟨rfl, rfl⟩)
    go_ret
    exact ⟨rfl, below_alloc0 _ _⟩
set_option maxRecDepth 100000 in
theorem rcheck_any (op a b c : Int) (w : World) : Calls Tryd.prog 16 #[inV op a b c] w fun e w' => e = .returned (.int .i64 (chkZ op a b c)) ∧ Below w.heap.size w w' := by
  have HF : ∀ W, Calls Tryd.prog 18 #[.int .i64 op] W fun e w' => e = .returned (.tuple #[.int .i64 (formZ op), .int .i64 (formE op)]) ∧ W = w' := fun W => (rform_any op W).mono fun _ _ h => ⟨h.1, h.2.symm⟩
  have HL : ∀ W, Calls Tryd.prog 20 #[.int .i64 op] W fun e w' => e = .returned (.tuple #[.int .i64 (lowZ op), .int .i64 (highZ op), .int .i64 (limE op)]) ∧ W = w' := fun W => (rlimits_any op W).mono fun _ _ h => ⟨h.1, h.2.symm⟩
  by_cases h : 0 ≤ op ∧ op ≤ 26
  · have e1 : chkZ op a b c = chkB (formN op.toNat) (lowN op.toNat) (highN op.toNat) a b c := if_pos h
    have e2 : formZ op = formN op.toNat := if_pos h
    have e3 : formE op = 0 := if_pos h
    have e4 : lowZ op = lowN op.toNat := if_pos h
    have e5 : highZ op = highN op.toNat := if_pos h
    have e6 : limE op = if 4 ≤ formN op.toNat then 0 else 1 := if_pos h
    rw [e1]
    rw [e2, e3] at HF
    rw [e4, e5, e6] at HL
    have hf := form_le op.toNat (by omega)
    clear e1 e2 e3 e4 e5 e6
    revert HF HL hf
    generalize formN op.toNat = f
    intro HF HL hf
    obtain rfl | rfl | rfl | rfl | rfl | rfl | rfl : f = 0 ∨ f = 1 ∨ f = 2 ∨ f = 3 ∨ f = 4 ∨ f = 5 ∨ f = 6 := by omega
    · exact rcheck_f0 op _ _ a b c w HF
    · exact rcheck_f1 op _ _ a b c w HF
    · exact rcheck_f2 op _ _ a b c w HF
    · exact rcheck_f3 op _ _ a b c w HF
    · exact rcheck_f4 op _ _ a b c w HF HL
    · exact rcheck_f5 op _ _ a b c w HF HL
    · exact rcheck_f6 op _ _ a b c w HF HL
  · have e1 : chkZ op a b c = 11 := if_neg h
    have e3 : formE op = 11 := if_neg h
    rw [e1]
    rw [e3] at HF
    have HF := Lib.hid HF
    clear h e1 e3 HL
    go_enter Tryd.func16, Tryd.ntmps16
    go_wp2_with (go_at_call 18; refine (HF.out _).mono ?_; rintro e w' ⟨rfl, rfl⟩)
    go_ret
    exact ⟨rfl, below_alloc0 _ _⟩
end Go.Proofs.YtajkccigmiegkaaDoor
