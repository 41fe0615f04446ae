/- instr: Form, Limits, Word; Check, and the reference's. -/
import Derived.Test.YtajkccigmiegkaaDoorITab
set_option linter.unusedVariables false
namespace Go.Proofs.YtajkccigmiegkaaDoor
open Go.RowKit

theorem form_in (op : Int) (w : World) (hE : Env w) (h0 : 0 ≤ op) (h1 : op ≤ 26) : Calls Tryd.prog 17 #[.int .i64 op] w fun e w' => e = .returned (.tuple #[.int .i64 (formN op.toNat), .int .i64 0]) ∧ w' = w := by
  obtain ⟨k, rfl⟩ := Int.eq_ofNat_of_zero_le h0
  have hk : k < 27 := by omega
  have hk2 : (k : Int) < 27 := by omega
  have HI : Hid (∀ W, Calls Tryd.prog 46 #[.int .i64 (k : Int)] W fun e w' => e = .returned (.bool true) ∧ w' = W) := Lib.hid fun W => by rw [← isOp_in h0 h1]; exact isOp_any k W
  have c1 := hE.form hk
  clear hE
  go_enter Tryd.func17, Tryd.ntmps17
  go_wp2_with (go_at_call 46; refine (HI.out _).mono ?_; rintro e w' ⟨rfl, rfl⟩)
  go_ret2
  exact ⟨rfl, rfl⟩
theorem form_any (op : Int) (w : World) (hE : Env w) : Calls Tryd.prog 17 #[.int .i64 op] w fun e w' => e = .returned (.tuple #[.int .i64 (formZ op), .int .i64 (formE op)]) ∧ w' = w := by
  by_cases h : 0 ≤ op ∧ op ≤ 26
  · have e1 : formZ op = formN op.toNat := if_pos h
    have e2 : formE op = 0 := if_pos h
    rw [e1, e2]
    exact form_in op w hE h.1 h.2
  · have e1 : formZ op = 0 := if_neg h
    have e2 : formE op = 11 := if_neg h
    rw [e1, e2]
    have HI : Hid (∀ W, Calls Tryd.prog 46 #[.int .i64 op] W fun e w' => e = .returned (.bool false) ∧ w' = W) := Lib.hid fun W => by rw [← isOp_out (op := op) (by omega)]; exact isOp_any op W
    clear h e1 e2
    go_enter Tryd.func17, Tryd.ntmps17
    go_wp2_with (go_at_call 46; refine (HI.out _).mono ?_; rintro e w' ⟨rfl, rfl⟩)
    go_ret2
    exact ⟨rfl, rfl⟩
theorem word_any (op : Int) (w : World) (hE : Env w) : Calls Tryd.prog 23 #[.int .i64 op] w fun e w' => e = .returned (.string ⟨(if 0 ≤ op ∧ op ≤ 26 then wordN op.toNat else []).toArray⟩) ∧ w' = w := by
  by_cases h : 0 ≤ op ∧ op ≤ 26
  · rw [if_pos h]
    obtain ⟨h0, h1⟩ := h
    have HO := isOp_in h0 h1
    obtain ⟨k, rfl⟩ := Int.eq_ofNat_of_zero_le h0
    have hk : k < 27 := by omega
    have hk2 : (k : Int) < 27 := by omega
    have HI : Hid (∀ W, Calls Tryd.prog 46 #[.int .i64 (k : Int)] W fun e w' => e = .returned (.bool true) ∧ w' = W) := Lib.hid fun W => by rw [← HO]; exact isOp_any k W
    have c1 := hE.word hk
    clear hE HO
    go_enter Tryd.func23, Tryd.ntmps23
    go_wp2_with (go_at_call 46; refine (HI.out _).mono ?_; rintro e w' ⟨rfl, rfl⟩)
    go_ret
    exact ⟨rfl, rfl⟩
  · rw [if_neg h]
    have HI : Hid (∀ W, Calls Tryd.prog 46 #[.int .i64 op] W fun e w' => e = .returned (.bool false) ∧ w' = W) := Lib.hid fun W => by rw [← isOp_out (op := op) (by omega)]; exact isOp_any op W
    clear h
    go_enter Tryd.func23, Tryd.ntmps23
    go_wp2_with (go_at_call 46; refine (HI.out _).mono ?_; rintro e w' ⟨rfl, rfl⟩)
    go_ret
    exact ⟨rfl, rfl⟩
end Go.Proofs.YtajkccigmiegkaaDoor
