/- instr: Limits and Check. -/
import Derived.Test.YtajkccigmiegkaaDoorIChk
import Derived.Deep.QuietTactic
import Derived.BigQuiet
set_option linter.unusedVariables false
namespace Go.Proofs.YtajkccigmiegkaaDoor
open Go.RowKit

abbrev opL (W : ByteArray) (f l h : Int) : List Value := [.string W, .int .i64 f, .int .i64 l, .int .i64 h]
theorem infoOp : (Tryd.prog.info? 84).map (·.size) = some 4 := by kernel_rfl
theorem Env.row {w : World} (h : Env w) {k : Nat} (hk : k < 27) : w.rangeAt 0 (k * 4) (opL ⟨(wordN k).toArray⟩ (formN k) (lowN k) (highN k)) := h k hk
theorem lows : ∀ k, k < 27 → ¬ 4 ≤ formN k → lowN k = 0 ∧ highN k = 0 := by decide

set_option maxRecDepth 100000 in
theorem limits_in (k : Nat) (W : ByteArray) (f l h : Int) (w : World) (hk : k < 27) (hf : 0 ≤ f ∧ f ≤ 6) (hr : w.rangeAt 0 (k * 4) (opL W f l h)) :
    Calls Tryd.prog 19 #[.int .i64 (k : Int)] w fun e w' => e = .returned (.tuple #[.int .i64 (if 4 ≤ f then l else 0), .int .i64 (if 4 ≤ f then h else 0), .int .i64 (if 4 ≤ f then 0 else 1)]) ∧ Below w.heap.size w w' := by
  have hk2 : (k : Int) < 27 := by omega
  have HI : Hid (∀ W, Calls Tryd.prog 46 #[.int .i64 (k : Int)] W fun e w' => e = .returned (.bool true) ∧ W = w') := Lib.hid fun W => by
    rw [← isOp_in (op := (k : Int)) (by omega) (by omega)]; exact (isOp_any k W).mono fun _ _ h => ⟨h.1, h.2.symm⟩
  obtain ⟨u, hu⟩ : ∃ u, useN f = u := ⟨_, rfl⟩
  have HN : Hid (∀ V, Calls Tryd.prog 50 #[opC W f l h] V fun e w' => e = .returned (.bool u) ∧ Below V.heap.size V w') := Lib.hid fun V => by rw [← hu]; exact usesNumber_any W f l h hf V
  have hu2 : u = decide (4 ≤ f) := by
    rw [← hu]
    obtain rfl | rfl | rfl | rfl | rfl | rfl | rfl : f = 0 ∨ f = 1 ∨ f = 2 ∨ f = 3 ∨ f = 4 ∨ f = 5 ∨ f = 6 := by omega
    all_goals rfl
  have HR := Lib.hid hr
  have c2 : w.cell? ⟨0, k * 4 + 2, none⟩ = some (.int .i64 l) := hr 2 _ rfl
  have c3 : w.cell? ⟨0, k * 4 + 3, none⟩ = some (.int .i64 h) := hr 3 _ rfl
  clear hr hu
  by_cases h4 : 4 ≤ f
  · rw [if_pos h4, if_pos h4, if_pos h4]
    obtain rfl : u = true := by rw [hu2, decide_eq_true h4]
    clear hu2 h4
    go_enter Tryd.func19, Tryd.ntmps19
    go_wp2_with (first
      | ((with_reducible show wpList _ _ _ (⟨some 12, _, _, _, _, _⟩ :: _) _ _); refine wpList_load_mid (by rfl) 84 (.tmp 11) (by rfl) 0 (k * 4) (by rfl) (opL W f l h) _ HR.out Tryd.underlying84 rfl infoOp ?_)
      | (go_at_call 46; refine (HI.out _).mono ?_; rintro e w' ⟨rfl, rfl⟩)
      | (go_at_call 50; refine (HN.out _).mono ?_; rintro e V ⟨rfl, hb⟩; have d2 := (hb.cell (cell_lt c2)).trans c2; have d3 := (hb.cell (cell_lt c3)).trans c3; have HB := Lib.hid hb; clear hb c2 c3))
    go_quiet (fail)
    go_wp2
    go_ret3
    exact ⟨rfl, below_drewN HB.out _⟩
  · rw [if_neg h4, if_neg h4, if_neg h4]
    obtain rfl : u = false := by rw [hu2, decide_eq_false h4]
    clear hu2 h4
    go_enter Tryd.func19, Tryd.ntmps19
    go_wp2_with (first
      | ((with_reducible show wpList _ _ _ (⟨some 12, _, _, _, _, _⟩ :: _) _ _); refine wpList_load_mid (by rfl) 84 (.tmp 11) (by rfl) 0 (k * 4) (by rfl) (opL W f l h) _ HR.out Tryd.underlying84 rfl infoOp ?_)
      | (go_at_call 46; refine (HI.out _).mono ?_; rintro e w' ⟨rfl, rfl⟩)
      | (go_at_call 50; refine (HN.out _).mono ?_; rintro e V ⟨rfl, hb⟩; have HB := Lib.hid hb; clear hb c2 c3))
    go_ret3
    exact ⟨rfl, HB.out⟩
theorem limits_any (op : Int) (w : World) (hE : Env w) : Calls Tryd.prog 19 #[.int .i64 op] w fun e w' => e = .returned (.tuple #[.int .i64 (lowZ op), .int .i64 (highZ op), .int .i64 (limE op)]) ∧ Below w.heap.size w w' := by
  by_cases h : 0 ≤ op ∧ op ≤ 26
  · obtain ⟨k, rfl⟩ := Int.eq_ofNat_of_zero_le h.1
    have hk : k < 27 := by omega
    have := limits_in k _ _ _ _ w hk (form_le k hk) (hE.row hk)
    have e1 : lowZ (k : Int) = if 4 ≤ formN k then lowN k else 0 := by
      unfold lowZ; rw [if_pos h]
      by_cases h4 : 4 ≤ formN k
      · rw [if_pos h4]; rfl
      · rw [if_neg h4]; exact (lows k hk h4).1
    have e2 : highZ (k : Int) = if 4 ≤ formN k then highN k else 0 := by
      unfold highZ; rw [if_pos h]
      by_cases h4 : 4 ≤ formN k
      · rw [if_pos h4]; rfl
      · rw [if_neg h4]; exact (lows k hk h4).2
    have e3 : limE (k : Int) = if 4 ≤ formN k then 0 else 1 := by unfold limE; rw [if_pos h]; rfl
    rw [e1, e2, e3]
    exact this
  · have e1 : lowZ op = 0 := if_neg h
    have e2 : highZ op = 0 := if_neg h
    have e3 : limE op = 11 := if_neg h
    rw [e1, e2, e3]
    have HI : Hid (∀ W, Calls Tryd.prog 46 #[.int .i64 op] W fun e w' => e = .returned (.bool false) ∧ W = w') := Lib.hid fun W => by rw [← isOp_out (op := op) (by omega)]; exact (isOp_any op W).mono fun _ _ h => ⟨h.1, h.2.symm⟩
    clear h e1 e2 e3
    go_enter Tryd.func19, Tryd.ntmps19
    go_wp2_with (go_at_call 46; refine (HI.out _).mono ?_; rintro e w' ⟨rfl, rfl⟩)
    go_ret3
    exact ⟨rfl, Below.refl _ _⟩
set_option maxRecDepth 100000 in
theorem rlimits_any (op : Int) (w : World) : Calls Tryd.prog 20 #[.int .i64 op] w fun e w' => e = .returned (.tuple #[.int .i64 (lowZ op), .int .i64 (highZ op), .int .i64 (limE op)]) ∧ w' = w := by
  have HF : Hid (∀ W, Calls Tryd.prog 18 #[.int .i64 op] W fun e w' => e = .returned (.tuple #[.int .i64 (formZ op), .int .i64 (formE op)]) ∧ W = w') := Lib.hid fun W => (rform_any op W).mono fun _ _ h => ⟨h.1, h.2.symm⟩
  by_cases h : 0 ≤ op ∧ op ≤ 26
  · obtain rfl | rfl | rfl | rfl | rfl | rfl | rfl | rfl | rfl | rfl | rfl | rfl | rfl | rfl | rfl | rfl | rfl | rfl | rfl | rfl | rfl | rfl | rfl | rfl | rfl | rfl | rfl := op27 h.1 h.2
    all_goals
      clear h
      rw [show formE _ = 0 from rfl] at HF
      go_enter Tryd.func20, Tryd.ntmps20
      go_wp2_with (go_at_call 18; refine (HF.out _).mono ?_; rintro e w' ⟨rfl, rfl⟩)
      go_ret3
      exact ⟨rfl, rfl⟩
  · have e1 : lowZ op = 0 := if_neg h
    have e2 : highZ op = 0 := if_neg h
    have e3 : limE op = 11 := if_neg h
    rw [e1, e2, e3]
    rw [show formE op = 11 from if_neg h] at HF
    clear h e1 e2 e3
    go_enter Tryd.func20, Tryd.ntmps20
    go_wp2_with (go_at_call 18; refine (HF.out _).mono ?_; rintro e w' ⟨rfl, rfl⟩)
    go_ret3
    exact ⟨rfl, rfl⟩
end Go.Proofs.YtajkccigmiegkaaDoor
