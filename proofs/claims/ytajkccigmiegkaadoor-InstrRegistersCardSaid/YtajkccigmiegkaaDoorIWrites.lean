/- instr: Writes, and the reference's; both where the instruction is not valid; the law InstrRegisters, walked. -/
import Derived.Test.YtajkccigmiegkaaDoorIRReads
import Derived.Deep.RegionHeld3
set_option linter.unusedVariables false
namespace Go.Proofs.YtajkccigmiegkaaDoor
open Go.RowKit

theorem nil_own (w V : World) (hb : Below w.heap.size w V) : OQ encI 1 3 V w.heap.size (.slice none 0 0) [] := OQ.nil _ _
set_option maxRecDepth 100000 in
theorem reads_bad (o a b c : Int) (w : World) (hE : Env w) (hk : chkZ o a b c ≠ 0) : Calls Tryd.prog 42 #[inV o a b c] w fun e w' => ∃ v, e = .returned v ∧ OQ encI 1 3 w' w.heap.size v [] ∧ Below w.heap.size w w' := by
  obtain ⟨z, hz⟩ : ∃ z, chkZ o a b c = z := ⟨_, rfl⟩
  rw [hz] at hk
  have HC : Hid (∀ W, Below w.heap.size w W → Calls Tryd.prog 15 #[inV o a b c] W fun e w' => e = .returned (.int .i64 z) ∧ Below W.heap.size W w') := Lib.hid fun W hb => by rw [← hz]; exact check_any _ _ _ _ W (hE.below hb)
  have k1 : (z == 0) = false := by simp [hk]
  have k2 : (z != 0) = true := by simp [hk]
  clear hE hz hk
  go_enter Tryd.func42, Tryd.ntmps42
  go_wp2_with (go_at_call 15; refine (HC.out _ (below_alloc0 _ _)).mono ?_; rintro e V ⟨rfl, hb⟩; have HB := Lib.hid ((below_alloc0 w _).trans (hb.mono (by simp))); clear hb)
  go_ret
  exact ⟨_, rfl, OQ.nil _ _, HB.out⟩
set_option maxRecDepth 100000 in
theorem writes_bad (o a b c : Int) (w : World) (hE : Env w) (hk : chkZ o a b c ≠ 0) : Calls Tryd.prog 44 #[inV o a b c] w fun e w' => ∃ v, e = .returned v ∧ OQ encI 1 3 w' w.heap.size v [] ∧ Below w.heap.size w w' := by
  obtain ⟨z, hz⟩ : ∃ z, chkZ o a b c = z := ⟨_, rfl⟩
  rw [hz] at hk
  have HC : Hid (∀ W, Below w.heap.size w W → Calls Tryd.prog 15 #[inV o a b c] W fun e w' => e = .returned (.int .i64 z) ∧ Below W.heap.size W w') := Lib.hid fun W hb => by rw [← hz]; exact check_any _ _ _ _ W (hE.below hb)
  have k1 : (z == 0) = false := by simp [hk]
  have k2 : (z != 0) = true := by simp [hk]
  clear hE hz hk
  go_enter Tryd.func44, Tryd.ntmps44
  go_wp2_with (go_at_call 15; refine (HC.out _ (below_alloc0 _ _)).mono ?_; rintro e V ⟨rfl, hb⟩; have HB := Lib.hid ((below_alloc0 w _).trans (hb.mono (by simp))); clear hb)
  go_ret
  exact ⟨_, rfl, OQ.nil _ _, HB.out⟩
theorem own_one (V : World) (base : Nat) (hb : base ≤ V.heap.size) (x : Int) : OQ encI 1 3 (V.alloc (.cells #[.int .i64 x] 3)) base (.slice (some ⟨V.heap.size, 0, none⟩) 1 1) [x] := by
  refine ⟨rfl, .inr ⟨V.heap.size, 1, #[.int .i64 x], rfl, hb, heap_alloc_new V _, by simp, by unfold maxLen; omega, by simp, by simp [flatQ, encI]⟩⟩
set_option maxHeartbeats 1000000 in
set_option maxRecDepth 100000 in
theorem writes_ok (op : Int) (a : Nat) (b c : Int) (w : World) (hE : Env w) (hk : chkZ op (a : Int) b c = 0) (x : Bool) (hx : wrA op = x) : Calls Tryd.prog 44 #[inV op (a : Int) b c] w fun e w' => ∃ v, e = .returned v ∧ OQ encI 1 3 w' w.heap.size v (if x then [(a : Int)] else []) ∧ Below w.heap.size w w' := by
  have h0 := (chk_ok hk).1
  have HC : Hid (∀ W, Below w.heap.size w W → Calls Tryd.prog 15 #[inV op (a : Int) b c] W fun e w' => e = .returned (.int .i64 0) ∧ Below W.heap.size W w') := Lib.hid fun W hb => by rw [← hk]; exact check_any _ _ _ _ W (hE.below hb)
  have HA : Hid (∀ W, Calls Tryd.prog 61 #[.int .i64 op] W fun e w' => e = .returned (.bool x) ∧ W = w') := Lib.hid fun W => by rw [← hx]; exact (writesA_any op W h0.1 h0.2).mono fun _ _ h => ⟨h.1, h.2.symm⟩
  clear hE hk h0 hx
  cases x
  all_goals
    go_enter Tryd.func44, Tryd.ntmps44
    go_wp2_with (first
      | (go_at_call 15; refine (HC.out _ (below_alloc0 _ _)).mono ?_; rintro e V ⟨rfl, hb⟩; have HB := Lib.hid ((below_alloc0 w _).trans (hb.mono (by simp))); have c0 := ((Blk.new w 26 (inC op (a : Int) b c)).under hb).cell 0; have c1 := ((Blk.new w 26 (inC op (a : Int) b c)).under hb).cell 1; clear hb)
      | (go_at_call 61; refine (HA.out _).mono ?_; rintro e w' ⟨rfl, rfl⟩))
    go_ret
  · exact ⟨_, rfl, OQ.nil _ _, HB.out⟩
  · exact ⟨_, rfl, own_one _ _ HB.out.size _, HB.out.alloc HB.out.size _⟩

set_option maxHeartbeats 1000000 in
set_option maxRecDepth 100000 in
theorem rreads_bad (o a b c : Int) (f e0 : Int) (w : World) (hk : chkZ o a b c ≠ 0) (hF : ∀ W, Calls Tryd.prog 18 #[.int .i64 o] W fun e w' => e = .returned (.tuple #[.int .i64 f, .int .i64 e0]) ∧ W = w') : Calls Tryd.prog 43 #[inV o a b c] w fun e w' => ∃ v, e = .returned v ∧ OQ encI 1 3 w' w.heap.size v [] ∧ Below w.heap.size w w' := by
  obtain ⟨z, hz⟩ : ∃ z, chkZ o a b c = z := ⟨_, rfl⟩
  rw [hz] at hk
  have HF := Lib.hid hF
  have HC : Hid (∀ W, Calls Tryd.prog 16 #[inV o a b c] W fun e w' => e = .returned (.int .i64 z) ∧ Below W.heap.size W w') := Lib.hid fun W => by rw [← hz]; exact rcheck_any _ _ _ _ W
  have k1 : (z == 0) = false := by simp [hk]
  have k2 : (z != 0) = true := by simp [hk]
  clear hz hk hF
  go_enter Tryd.func43, Tryd.ntmps43
  go_wp2_with (first
    | (go_at_call 18; refine (HF.out _).mono ?_; rintro e w' ⟨rfl, rfl⟩)
    | (go_at_call 16; refine (HC.out _).mono ?_; rintro e V ⟨rfl, hb⟩; have HB := Lib.hid ((below2 w _ _).trans (hb.mono (by simp; omega))); clear hb))
  go_ret
  exact ⟨_, rfl, OQ.nil _ _, HB.out⟩
theorem regs_none : regsTo no8 8 = [] := by decide
theorem regs_one : ∀ a, a < 8 → regsTo (setIf true a no8) 8 = [(a : Int)] := by decide
set_option maxHeartbeats 2000000 in
set_option maxRecDepth 100000 in
theorem rwrites_bad (o a b c : Int) (w : World) (hk : chkZ o a b c ≠ 0) : Calls Tryd.prog 45 #[inV o a b c] w fun e w' => ∃ v, e = .returned v ∧ OQ encI 1 3 w' w.heap.size v [] ∧ Below w.heap.size w w' := by
  obtain ⟨z, hz⟩ : ∃ z, chkZ o a b c = z := ⟨_, rfl⟩
  rw [hz] at hk
  have HC : Hid (∀ W, Calls Tryd.prog 16 #[inV o a b c] W fun e w' => e = .returned (.int .i64 z) ∧ Below W.heap.size W w') := Lib.hid fun W => by rw [← hz]; exact rcheck_any _ _ _ _ W
  have k1 : (z == 0) = false := by simp [hk]
  have HR : Hid (∀ W, Calls Tryd.prog 60 #[.agg (bsC no8)] W fun e w' => ∃ v, e = .returned v ∧ OQ encI 1 3 w' W.heap.size v [] ∧ Below W.heap.size W w') := Lib.hid fun W => by rw [← regs_none]; exact registers_any no8 rfl W
  have HIB := Lib.hid (show (Tryd.prog.info? 94).map (·.size) = some 8 by kernel_rfl)
  clear hz hk
  go_enter Tryd.func45, Tryd.ntmps45
  go_wp2_with (first
    | (go_at_call 16; refine (HC.out _).mono ?_; rintro e V ⟨rfl, hb⟩; have HV := Lib.hid (rh_under hb); clear hb)
    | ((with_reducible show wpList _ _ _ (⟨some 30, _, _, _, _, _⟩ :: _) _ _); refine wpList_load_mid (by rfl) 94 (.tmp 3) (by rfl) (w.heap.size + 1) 0 (by rfl) (bsC no8).toList _ HV.out.2.1.range Tryd.underlying94 rfl HIB.out ?_)
    | (go_at_call 60; refine (HR.out _).mono ?_; rintro e V8 ⟨v, rfl, ho, hb⟩; have HO := Lib.hid ho; have HQ := Lib.hid (HV.out.2.2.trans (hb.mono HV.out.2.2.size)); clear ho hb))
  go_ret
  exact ⟨_, rfl, HO.out.base0 HV.out.2.2.size, HQ.out⟩
set_option maxHeartbeats 1000000 in
set_option maxRecDepth 100000 in
theorem rwrites_ok (op : Int) (a : Nat) (b c : Int) (w : World) (ha : a < 8) (hk : chkZ op (a : Int) b c = 0) (x : Bool) (hx : wrA op = x) : Calls Tryd.prog 45 #[inV op (a : Int) b c] w fun e w' => ∃ v, e = .returned v ∧ OQ encI 1 3 w' w.heap.size v (if x then [(a : Int)] else []) ∧ Below w.heap.size w w' := by
  have HC : Hid (∀ W, Calls Tryd.prog 16 #[inV op (a : Int) b c] W fun e w' => e = .returned (.int .i64 0) ∧ Below W.heap.size W w') := Lib.hid fun W => by rw [← hk]; exact rcheck_any _ _ _ _ W
  obtain ⟨L, hL⟩ : ∃ L, L = setIf x a no8 := ⟨_, rfl⟩
  obtain ⟨M, hM⟩ : ∃ M, M = (if x then [(a : Int)] else []) := ⟨_, rfl⟩
  rw [← hM]
  have hLM : regsTo L 8 = M := by
    rw [hL, hM]
    cases x
    · exact regs_none
    · exact regs_one a ha
  have h8 : L.length = 8 := by rw [hL]; exact setIf_len x a no8
  have HR : Hid (∀ W, Calls Tryd.prog 60 #[.agg (bsC L)] W fun e w' => ∃ v, e = .returned v ∧ OQ encI 1 3 w' W.heap.size v M ∧ Below W.heap.size W w') := Lib.hid fun W => by rw [← hLM]; exact registers_any L h8 W
  have HL := Lib.hid hL
  have H8 := Lib.hid h8
  clear hL hM hLM h8
  have HIB := Lib.hid (show (Tryd.prog.info? 94).map (·.size) = some 8 by kernel_rfl)
  have ha1 : (a : Int) < 8 := by omega
  unfold wrA at hx
  obtain ⟨x1, h1⟩ : ∃ x1, decide (1 ≤ op) = x1 := ⟨_, rfl⟩
  obtain ⟨x2, h2⟩ : ∃ x2, decide (op ≤ 17) = x2 := ⟨_, rfl⟩
  obtain ⟨x3, h3⟩ : ∃ x3, (op == 19) = x3 := ⟨_, rfl⟩
  obtain ⟨x4, h4⟩ : ∃ x4, (op == 24) = x4 := ⟨_, rfl⟩
  rw [h1, h2, h3, h4] at hx
  clear hk
  have hcase : (x1 = true ∧ x2 = true ∧ x = true) ∨ (x1 = true ∧ x2 = false ∧ x3 = true ∧ x = true) ∨ (x1 = true ∧ x2 = false ∧ x3 = false ∧ x4 = true ∧ x = true) ∨ (x1 = true ∧ x2 = false ∧ x3 = false ∧ x4 = false ∧ x = false) ∨ (x1 = false ∧ x3 = true ∧ x = true) ∨ (x1 = false ∧ x3 = false ∧ x4 = true ∧ x = true) ∨ (x1 = false ∧ x3 = false ∧ x4 = false ∧ x = false) := by
    subst hx
    cases x1 <;> cases x2 <;> cases x3 <;> cases x4 <;> simp
  clear hx
  rcases hcase with ⟨rfl, rfl, rfl⟩ | ⟨rfl, rfl, rfl, rfl⟩ | ⟨rfl, rfl, rfl, rfl, rfl⟩ | ⟨rfl, rfl, rfl, rfl, rfl⟩ | ⟨rfl, rfl, rfl⟩ | ⟨rfl, rfl, rfl, rfl⟩ | ⟨rfl, rfl, rfl, rfl⟩
  all_goals
    go_enter Tryd.func45, Tryd.ntmps45
    go_wp2_with (first
      | (go_at_call 16; refine (HC.out _).mono ?_; rintro e V ⟨rfl, hb⟩; have HV := Lib.hid (rh_under hb); clear hb; have c0 := HV.out.1.cell 0; have c1 := HV.out.1.cell 1; have m1 := (HV.out.2.1.cell a).trans (bsC_get _ (by simp; omega)); have n1 := HV.out.2.1.frozen a)
      | ((with_reducible show wpList _ _ _ (⟨some 30, _, _, _, _, _⟩ :: _) _ _); refine wpl_gen (RH w _ (setIf true a no8)) (HV.out.set a) ?_; intro V3 hV; replace HV := Lib.hid hV; clear hV c0 c1 m1 n1)
      | ((with_reducible show wpList _ _ _ (⟨some 30, _, _, _, _, _⟩ :: _) _ _); refine wpList_load_mid (by rfl) 94 (.tmp 3) (by rfl) (w.heap.size + 1) 0 (by rfl) (bsC L).toList _ (by rw [HL.out]; exact HV.out.2.1.range) Tryd.underlying94 rfl (by rw [HIB.out]; simp [H8.out]) ?_)
      | (go_at_call 60; refine (HR.out _).mono ?_; rintro e V8 ⟨v, rfl, ho, hb⟩; have HO := Lib.hid ho; have HQ := Lib.hid (HV.out.2.2.trans (hb.mono HV.out.2.2.size)); clear ho hb))
    go_ret
    exact ⟨_, rfl, HO.out.base0 HV.out.2.2.size, HQ.out⟩
end Go.Proofs.YtajkccigmiegkaaDoor
