/- instr: Check. -/
import Derived.Test.YtajkccigmiegkaaDoorIChkB
set_option linter.unusedVariables false
namespace Go.Proofs.YtajkccigmiegkaaDoor
open Go.RowKit

abbrev inV (o a b c : Int) : Value := .agg #[.int .i64 o, .int .i64 a, .int .i64 b, .int .i64 c]
abbrev inC (o a b c : Int) : Array Value := #[.int .i64 o, .int .i64 a, .int .i64 b, .int .i64 c]
/-- Check, of a known operation. -/
def chkB (f lo hi a b c : Int) : Int :=
  if (!useA f && a != 0) || (!useB f && b != 0) || (!useC f && !useN f && c != 0) then 1 else if !isReg a || !isReg b || (useC f && !isReg c) then 2 else if useN f && (decide (c < lo) || decide (hi < c)) then 2 else 0
/-- The instruction and its operation in blocks of the callee's own. -/
def CK (w : World) (cs us : Array Value) (V : World) : Prop := Blk V w.heap.size 26 cs ∧ Blk V (w.heap.size + 1) 84 us ∧ Below w.heap.size w V
theorem ck_new (w : World) (cs us : Array Value) : CK w cs us ((w.alloc (.cells cs 26)).alloc (.cells us 84)) := by
  have e1 : (w.alloc (Obj.cells cs 26)).heap.size = w.heap.size + 1 := by simp
  refine ⟨(Blk.new w _ _).alloc _, ?_, ((Below.refl _ w).alloc (Nat.le_refl _) _).alloc (by simp) _⟩
  rw [← e1]; exact Blk.new _ _ _
theorem Blk.under {w w' : World} {g : Nat} {t : TypeId} {cs : Array Value} (h : Blk w g t cs) (hb : Below w.heap.size w w') : Blk w' g t cs := (hb.block g h.lt).trans h
theorem CK.under {w : World} {cs us : Array Value} {V V' : World} (h : CK w cs us V) (hb : Below V.heap.size V V') : CK w cs us V' :=
  ⟨h.1.under hb, h.2.1.under hb, h.2.2.trans (hb.mono h.2.2.size)⟩
theorem below_alloc0 (w : World) (o : Obj) : Below w.heap.size w (w.alloc o) := (Below.refl _ _).alloc (Nat.le_refl _) o
set_option maxHeartbeats 2000000 in
set_option maxRecDepth 100000 in
theorem check_f0 (k : Nat) (U : ByteArray) (lo hi a b c : Int) (w : World) (hk : k < 27) (hu : ∀ W, Below w.heap.size w W → W.rangeAt 0 (k * 4) (opL U 0 lo hi)) :
    Calls Tryd.prog 15 #[inV (k : Int) a b c] w fun e w' => e = .returned (.int .i64 (chkB 0 lo hi a b c)) ∧ Below w.heap.size w w' := by
  have hk2 : (k : Int) < 27 := by omega
  have HU := Lib.hid hu
  obtain ⟨R, hR⟩ : ∃ R, R = chkB 0 lo hi a b c := ⟨_, rfl⟩
  rw [← hR]
  unfold chkB at hR
  obtain ⟨a0, ha0⟩ : ∃ a0, (a != 0) = a0 := ⟨_, rfl⟩
  obtain ⟨b0, hb0⟩ : ∃ b0, (b != 0) = b0 := ⟨_, rfl⟩
  obtain ⟨c0, hc0⟩ : ∃ c0, (c != 0) = c0 := ⟨_, rfl⟩
  obtain ⟨ra, hra⟩ : ∃ ra, isReg a = ra := ⟨_, rfl⟩
  obtain ⟨rb, hrb⟩ : ∃ rb, isReg b = rb := ⟨_, rfl⟩
  obtain ⟨rc, hrc⟩ : ∃ rc, isReg c = rc := ⟨_, rfl⟩
  obtain ⟨x, hx⟩ : ∃ x, decide (c < lo) = x := ⟨_, rfl⟩
  obtain ⟨y, hy⟩ : ∃ y, decide (hi < c) = y := ⟨_, rfl⟩
  rw [ha0, hb0, hc0, hra, hrb, hrc, hx, hy] at hR
  have HI : Hid (∀ W, Calls Tryd.prog 46 #[.int .i64 (k : Int)] W fun e w' => e = .returned (.bool true) ∧ W = w') := Lib.hid fun W => by
    rw [← isOp_in (op := (k : Int)) (by omega) (by omega)]; exact (isOp_any k W).mono fun _ _ h => ⟨h.1, h.2.symm⟩
  have HA : Hid (∀ W, Calls Tryd.prog 47 #[opC U 0 lo hi] W fun e w' => e = .returned (.bool (useA 0)) ∧ Below W.heap.size W w') := Lib.hid fun W => usesA_any U 0 lo hi (by decide) W
  have HB : Hid (∀ W, Calls Tryd.prog 48 #[opC U 0 lo hi] W fun e w' => e = .returned (.bool (useB 0)) ∧ Below W.heap.size W w') := Lib.hid fun W => usesB_any U 0 lo hi (by decide) W
  have HC : Hid (∀ W, Calls Tryd.prog 49 #[opC U 0 lo hi] W fun e w' => e = .returned (.bool (useC 0)) ∧ Below W.heap.size W w') := Lib.hid fun W => usesC_any U 0 lo hi (by decide) W
  have HN : Hid (∀ W, Calls Tryd.prog 50 #[opC U 0 lo hi] W fun e w' => e = .returned (.bool (useN 0)) ∧ Below W.heap.size W w') := Lib.hid fun W => usesNumber_any U 0 lo hi (by decide) W
  rw [show useA 0 = false from rfl] at HA hR
  rw [show useB 0 = false from rfl] at HB hR
  rw [show useC 0 = false from rfl] at HC hR
  rw [show useN 0 = false from rfl] at HN hR
  have HRA : Hid (∀ W, Calls Tryd.prog 51 #[.int .i64 a] W fun e w' => e = .returned (.bool ra) ∧ W = w') := Lib.hid fun W => by rw [← hra]; exact (isReg_any a W).mono fun _ _ h => ⟨h.1, h.2.symm⟩
  have HRB : Hid (∀ W, Calls Tryd.prog 51 #[.int .i64 b] W fun e w' => e = .returned (.bool rb) ∧ W = w') := Lib.hid fun W => by rw [← hrb]; exact (isReg_any b W).mono fun _ _ h => ⟨h.1, h.2.symm⟩
  have HRC : Hid (∀ W, Calls Tryd.prog 51 #[.int .i64 c] W fun e w' => e = .returned (.bool rc) ∧ W = w') := Lib.hid fun W => by rw [← hrc]; exact (isReg_any c W).mono fun _ _ h => ⟨h.1, h.2.symm⟩
  have HR := Lib.hid hR
  clear hu hR hra hrb hrc hk
  have hcase : (a0 = true) ∨ (a0 = false ∧ b0 = true) ∨ (a0 = false ∧ b0 = false ∧ c0 = true) ∨ (a0 = false ∧ b0 = false ∧ c0 = false ∧ ra = false) ∨ (a0 = false ∧ b0 = false ∧ c0 = false ∧ ra = true ∧ rb = false) ∨ (a0 = false ∧ b0 = false ∧ c0 = false ∧ ra = true ∧ rb = true) := by
    cases a0 <;> cases b0 <;> cases c0 <;> cases ra <;> cases rb <;> simp
  rcases hcase with rfl | ⟨rfl, rfl⟩ | ⟨rfl, rfl, rfl⟩ | ⟨rfl, rfl, rfl, rfl⟩ | ⟨rfl, rfl, rfl, rfl, rfl⟩ | ⟨rfl, rfl, rfl, rfl, rfl⟩
  all_goals
    go_enter Tryd.func15, Tryd.ntmps15
    go_wp2_with (first
      | ((with_reducible show wpList _ _ _ (⟨some 11, _, _, _, _, _⟩ :: _) _ _); refine wpList_load_mid (by rfl) 84 (.tmp 10) (by rfl) 0 (k * 4) (by rfl) (opL U 0 lo hi) _ (HU.out _ (below_alloc0 _ _)) Tryd.underlying84 rfl infoOp ?_)
      | ((with_reducible show wpList _ _ _ (⟨some 13, _, _, _, _, _⟩ :: _) _ _); refine wpl_gen (CK w (inC (k : Int) a b c) #[.string U, .int .i64 0, .int .i64 lo, .int .i64 hi]) (ck_new w _ _) ?_; intro V hV; have c0 := hV.1.cell 0; have c1 := hV.1.cell 1; have c2 := hV.1.cell 2; have c3 := hV.1.cell 3; have d0 := hV.2.1.cell 0; have d1 := hV.2.1.cell 1; have d2 := hV.2.1.cell 2; have d3 := hV.2.1.cell 3; have HV := Lib.hid hV; clear hV)
      | (go_at_call 46; refine (HI.out _).mono ?_; rintro e w' ⟨rfl, rfl⟩)
      | (go_at_call 47; refine (HA.out _).mono ?_; rintro e V1 ⟨rfl, hb⟩; replace HV := Lib.hid (HV.out.under hb); clear hb c0 c1 c2 c3 d0 d1 d2 d3; have c0 := HV.out.1.cell 0; have c1 := HV.out.1.cell 1; have c2 := HV.out.1.cell 2; have c3 := HV.out.1.cell 3; have d0 := HV.out.2.1.cell 0; have d1 := HV.out.2.1.cell 1; have d2 := HV.out.2.1.cell 2; have d3 := HV.out.2.1.cell 3)
      | (go_at_call 48; refine (HB.out _).mono ?_; rintro e V1 ⟨rfl, hb⟩; replace HV := Lib.hid (HV.out.under hb); clear hb c0 c1 c2 c3 d0 d1 d2 d3; have c0 := HV.out.1.cell 0; have c1 := HV.out.1.cell 1; have c2 := HV.out.1.cell 2; have c3 := HV.out.1.cell 3; have d0 := HV.out.2.1.cell 0; have d1 := HV.out.2.1.cell 1; have d2 := HV.out.2.1.cell 2; have d3 := HV.out.2.1.cell 3)
      | (go_at_call 49; refine (HC.out _).mono ?_; rintro e V1 ⟨rfl, hb⟩; replace HV := Lib.hid (HV.out.under hb); clear hb c0 c1 c2 c3 d0 d1 d2 d3; have c0 := HV.out.1.cell 0; have c1 := HV.out.1.cell 1; have c2 := HV.out.1.cell 2; have c3 := HV.out.1.cell 3; have d0 := HV.out.2.1.cell 0; have d1 := HV.out.2.1.cell 1; have d2 := HV.out.2.1.cell 2; have d3 := HV.out.2.1.cell 3)
      | (go_at_call 50; refine (HN.out _).mono ?_; rintro e V1 ⟨rfl, hb⟩; replace HV := Lib.hid (HV.out.under hb); clear hb c0 c1 c2 c3 d0 d1 d2 d3; have c0 := HV.out.1.cell 0; have c1 := HV.out.1.cell 1; have c2 := HV.out.1.cell 2; have c3 := HV.out.1.cell 3; have d0 := HV.out.2.1.cell 0; have d1 := HV.out.2.1.cell 1; have d2 := HV.out.2.1.cell 2; have d3 := HV.out.2.1.cell 3)
      | (go_at_call 51; (with_reducible refine (HRA.out _).mono ?_); rintro e w' ⟨rfl, rfl⟩)
      | (go_at_call 51; (with_reducible refine (HRB.out _).mono ?_); rintro e w' ⟨rfl, rfl⟩)
      | (go_at_call 51; (with_reducible refine (HRC.out _).mono ?_); rintro e w' ⟨rfl, rfl⟩))
  all_goals (go_ret; exact ⟨by rw [HR.out]; rfl, HV.out.2.2⟩)
set_option maxHeartbeats 2000000 in
set_option maxRecDepth 100000 in
theorem check_f1 (k : Nat) (U : ByteArray) (lo hi a b c : Int) (w : World) (hk : k < 27) (hu : ∀ W, Below w.heap.size w W → W.rangeAt 0 (k * 4) (opL U 1 lo hi)) :
    Calls Tryd.prog 15 #[inV (k : Int) a b c] w fun e w' => e = .returned (.int .i64 (chkB 1 lo hi a b c)) ∧ Below w.heap.size w w' := by
  have hk2 : (k : Int) < 27 := by omega
  have HU := Lib.hid hu
  obtain ⟨R, hR⟩ : ∃ R, R = chkB 1 lo hi a b c := ⟨_, rfl⟩
  rw [← hR]
  unfold chkB at hR
  obtain ⟨a0, ha0⟩ : ∃ a0, (a != 0) = a0 := ⟨_, rfl⟩
  obtain ⟨b0, hb0⟩ : ∃ b0, (b != 0) = b0 := ⟨_, rfl⟩
  obtain ⟨c0, hc0⟩ : ∃ c0, (c != 0) = c0 := ⟨_, rfl⟩
  obtain ⟨ra, hra⟩ : ∃ ra, isReg a = ra := ⟨_, rfl⟩
  obtain ⟨rb, hrb⟩ : ∃ rb, isReg b = rb := ⟨_, rfl⟩
  obtain ⟨rc, hrc⟩ : ∃ rc, isReg c = rc := ⟨_, rfl⟩
  obtain ⟨x, hx⟩ : ∃ x, decide (c < lo) = x := ⟨_, rfl⟩
  obtain ⟨y, hy⟩ : ∃ y, decide (hi < c) = y := ⟨_, rfl⟩
  rw [ha0, hb0, hc0, hra, hrb, hrc, hx, hy] at hR
  have HI : Hid (∀ W, Calls Tryd.prog 46 #[.int .i64 (k : Int)] W fun e w' => e = .returned (.bool true) ∧ W = w') := Lib.hid fun W => by
    rw [← isOp_in (op := (k : Int)) (by omega) (by omega)]; exact (isOp_any k W).mono fun _ _ h => ⟨h.1, h.2.symm⟩
  have HA : Hid (∀ W, Calls Tryd.prog 47 #[opC U 1 lo hi] W fun e w' => e = .returned (.bool (useA 1)) ∧ Below W.heap.size W w') := Lib.hid fun W => usesA_any U 1 lo hi (by decide) W
  have HB : Hid (∀ W, Calls Tryd.prog 48 #[opC U 1 lo hi] W fun e w' => e = .returned (.bool (useB 1)) ∧ Below W.heap.size W w') := Lib.hid fun W => usesB_any U 1 lo hi (by decide) W
  have HC : Hid (∀ W, Calls Tryd.prog 49 #[opC U 1 lo hi] W fun e w' => e = .returned (.bool (useC 1)) ∧ Below W.heap.size W w') := Lib.hid fun W => usesC_any U 1 lo hi (by decide) W
  have HN : Hid (∀ W, Calls Tryd.prog 50 #[opC U 1 lo hi] W fun e w' => e = .returned (.bool (useN 1)) ∧ Below W.heap.size W w') := Lib.hid fun W => usesNumber_any U 1 lo hi (by decide) W
  rw [show useA 1 = true from rfl] at HA hR
  rw [show useB 1 = false from rfl] at HB hR
  rw [show useC 1 = false from rfl] at HC hR
  rw [show useN 1 = false from rfl] at HN hR
  have HRA : Hid (∀ W, Calls Tryd.prog 51 #[.int .i64 a] W fun e w' => e = .returned (.bool ra) ∧ W = w') := Lib.hid fun W => by rw [← hra]; exact (isReg_any a W).mono fun _ _ h => ⟨h.1, h.2.symm⟩
  have HRB : Hid (∀ W, Calls Tryd.prog 51 #[.int .i64 b] W fun e w' => e = .returned (.bool rb) ∧ W = w') := Lib.hid fun W => by rw [← hrb]; exact (isReg_any b W).mono fun _ _ h => ⟨h.1, h.2.symm⟩
  have HRC : Hid (∀ W, Calls Tryd.prog 51 #[.int .i64 c] W fun e w' => e = .returned (.bool rc) ∧ W = w') := Lib.hid fun W => by rw [← hrc]; exact (isReg_any c W).mono fun _ _ h => ⟨h.1, h.2.symm⟩
  have HR := Lib.hid hR
  clear hu hR hra hrb hrc hk
  have hcase : (b0 = true) ∨ (b0 = false ∧ c0 = true) ∨ (b0 = false ∧ c0 = false ∧ ra = false) ∨ (b0 = false ∧ c0 = false ∧ ra = true ∧ rb = false) ∨ (b0 = false ∧ c0 = false ∧ ra = true ∧ rb = true) := by
    cases b0 <;> cases c0 <;> cases ra <;> cases rb <;> simp
  rcases hcase with rfl | ⟨rfl, rfl⟩ | ⟨rfl, rfl, rfl⟩ | ⟨rfl, rfl, rfl, rfl⟩ | ⟨rfl, rfl, rfl, rfl⟩
  all_goals
    go_enter Tryd.func15, Tryd.ntmps15
    go_wp2_with (first
      | ((with_reducible show wpList _ _ _ (⟨some 11, _, _, _, _, _⟩ :: _) _ _); refine wpList_load_mid (by rfl) 84 (.tmp 10) (by rfl) 0 (k * 4) (by rfl) (opL U 1 lo hi) _ (HU.out _ (below_alloc0 _ _)) Tryd.underlying84 rfl infoOp ?_)
      | ((with_reducible show wpList _ _ _ (⟨some 13, _, _, _, _, _⟩ :: _) _ _); refine wpl_gen (CK w (inC (k : Int) a b c) #[.string U, .int .i64 1, .int .i64 lo, .int .i64 hi]) (ck_new w _ _) ?_; intro V hV; have c0 := hV.1.cell 0; have c1 := hV.1.cell 1; have c2 := hV.1.cell 2; have c3 := hV.1.cell 3; have d0 := hV.2.1.cell 0; have d1 := hV.2.1.cell 1; have d2 := hV.2.1.cell 2; have d3 := hV.2.1.cell 3; have HV := Lib.hid hV; clear hV)
      | (go_at_call 46; refine (HI.out _).mono ?_; rintro e w' ⟨rfl, rfl⟩)
      | (go_at_call 47; refine (HA.out _).mono ?_; rintro e V1 ⟨rfl, hb⟩; replace HV := Lib.hid (HV.out.under hb); clear hb c0 c1 c2 c3 d0 d1 d2 d3; have c0 := HV.out.1.cell 0; have c1 := HV.out.1.cell 1; have c2 := HV.out.1.cell 2; have c3 := HV.out.1.cell 3; have d0 := HV.out.2.1.cell 0; have d1 := HV.out.2.1.cell 1; have d2 := HV.out.2.1.cell 2; have d3 := HV.out.2.1.cell 3)
      | (go_at_call 48; refine (HB.out _).mono ?_; rintro e V1 ⟨rfl, hb⟩; replace HV := Lib.hid (HV.out.under hb); clear hb c0 c1 c2 c3 d0 d1 d2 d3; have c0 := HV.out.1.cell 0; have c1 := HV.out.1.cell 1; have c2 := HV.out.1.cell 2; have c3 := HV.out.1.cell 3; have d0 := HV.out.2.1.cell 0; have d1 := HV.out.2.1.cell 1; have d2 := HV.out.2.1.cell 2; have d3 := HV.out.2.1.cell 3)
      | (go_at_call 49; refine (HC.out _).mono ?_; rintro e V1 ⟨rfl, hb⟩; replace HV := Lib.hid (HV.out.under hb); clear hb c0 c1 c2 c3 d0 d1 d2 d3; have c0 := HV.out.1.cell 0; have c1 := HV.out.1.cell 1; have c2 := HV.out.1.cell 2; have c3 := HV.out.1.cell 3; have d0 := HV.out.2.1.cell 0; have d1 := HV.out.2.1.cell 1; have d2 := HV.out.2.1.cell 2; have d3 := HV.out.2.1.cell 3)
      | (go_at_call 50; refine (HN.out _).mono ?_; rintro e V1 ⟨rfl, hb⟩; replace HV := Lib.hid (HV.out.under hb); clear hb c0 c1 c2 c3 d0 d1 d2 d3; have c0 := HV.out.1.cell 0; have c1 := HV.out.1.cell 1; have c2 := HV.out.1.cell 2; have c3 := HV.out.1.cell 3; have d0 := HV.out.2.1.cell 0; have d1 := HV.out.2.1.cell 1; have d2 := HV.out.2.1.cell 2; have d3 := HV.out.2.1.cell 3)
      | (go_at_call 51; (with_reducible refine (HRA.out _).mono ?_); rintro e w' ⟨rfl, rfl⟩)
      | (go_at_call 51; (with_reducible refine (HRB.out _).mono ?_); rintro e w' ⟨rfl, rfl⟩)
      | (go_at_call 51; (with_reducible refine (HRC.out _).mono ?_); rintro e w' ⟨rfl, rfl⟩))
  all_goals (go_ret; exact ⟨by rw [HR.out]; rfl, HV.out.2.2⟩)
set_option maxHeartbeats 2000000 in
set_option maxRecDepth 100000 in
theorem check_f2 (k : Nat) (U : ByteArray) (lo hi a b c : Int) (w : World) (hk : k < 27) (hu : ∀ W, Below w.heap.size w W → W.rangeAt 0 (k * 4) (opL U 2 lo hi)) :
    Calls Tryd.prog 15 #[inV (k : Int) a b c] w fun e w' => e = .returned (.int .i64 (chkB 2 lo hi a b c)) ∧ Below w.heap.size w w' := by
  have hk2 : (k : Int) < 27 := by omega
  have HU := Lib.hid hu
  obtain ⟨R, hR⟩ : ∃ R, R = chkB 2 lo hi a b c := ⟨_, rfl⟩
  rw [← hR]
  unfold chkB at hR
  obtain ⟨a0, ha0⟩ : ∃ a0, (a != 0) = a0 := ⟨_, rfl⟩
  obtain ⟨b0, hb0⟩ : ∃ b0, (b != 0) = b0 := ⟨_, rfl⟩
  obtain ⟨c0, hc0⟩ : ∃ c0, (c != 0) = c0 := ⟨_, rfl⟩
  obtain ⟨ra, hra⟩ : ∃ ra, isReg a = ra := ⟨_, rfl⟩
  obtain ⟨rb, hrb⟩ : ∃ rb, isReg b = rb := ⟨_, rfl⟩
  obtain ⟨rc, hrc⟩ : ∃ rc, isReg c = rc := ⟨_, rfl⟩
  obtain ⟨x, hx⟩ : ∃ x, decide (c < lo) = x := ⟨_, rfl⟩
  obtain ⟨y, hy⟩ : ∃ y, decide (hi < c) = y := ⟨_, rfl⟩
  rw [ha0, hb0, hc0, hra, hrb, hrc, hx, hy] at hR
  have HI : Hid (∀ W, Calls Tryd.prog 46 #[.int .i64 (k : Int)] W fun e w' => e = .returned (.bool true) ∧ W = w') := Lib.hid fun W => by
    rw [← isOp_in (op := (k : Int)) (by omega) (by omega)]; exact (isOp_any k W).mono fun _ _ h => ⟨h.1, h.2.symm⟩
  have HA : Hid (∀ W, Calls Tryd.prog 47 #[opC U 2 lo hi] W fun e w' => e = .returned (.bool (useA 2)) ∧ Below W.heap.size W w') := Lib.hid fun W => usesA_any U 2 lo hi (by decide) W
  have HB : Hid (∀ W, Calls Tryd.prog 48 #[opC U 2 lo hi] W fun e w' => e = .returned (.bool (useB 2)) ∧ Below W.heap.size W w') := Lib.hid fun W => usesB_any U 2 lo hi (by decide) W
  have HC : Hid (∀ W, Calls Tryd.prog 49 #[opC U 2 lo hi] W fun e w' => e = .returned (.bool (useC 2)) ∧ Below W.heap.size W w') := Lib.hid fun W => usesC_any U 2 lo hi (by decide) W
  have HN : Hid (∀ W, Calls Tryd.prog 50 #[opC U 2 lo hi] W fun e w' => e = .returned (.bool (useN 2)) ∧ Below W.heap.size W w') := Lib.hid fun W => usesNumber_any U 2 lo hi (by decide) W
  rw [show useA 2 = true from rfl] at HA hR
  rw [show useB 2 = true from rfl] at HB hR
  rw [show useC 2 = false from rfl] at HC hR
  rw [show useN 2 = false from rfl] at HN hR
  have HRA : Hid (∀ W, Calls Tryd.prog 51 #[.int .i64 a] W fun e w' => e = .returned (.bool ra) ∧ W = w') := Lib.hid fun W => by rw [← hra]; exact (isReg_any a W).mono fun _ _ h => ⟨h.1, h.2.symm⟩
  have HRB : Hid (∀ W, Calls Tryd.prog 51 #[.int .i64 b] W fun e w' => e = .returned (.bool rb) ∧ W = w') := Lib.hid fun W => by rw [← hrb]; exact (isReg_any b W).mono fun _ _ h => ⟨h.1, h.2.symm⟩
  have HRC : Hid (∀ W, Calls Tryd.prog 51 #[.int .i64 c] W fun e w' => e = .returned (.bool rc) ∧ W = w') := Lib.hid fun W => by rw [← hrc]; exact (isReg_any c W).mono fun _ _ h => ⟨h.1, h.2.symm⟩
  have HR := Lib.hid hR
  clear hu hR hra hrb hrc hk
  have hcase : (c0 = true) ∨ (c0 = false ∧ ra = false) ∨ (c0 = false ∧ ra = true ∧ rb = false) ∨ (c0 = false ∧ ra = true ∧ rb = true) := by
    cases c0 <;> cases ra <;> cases rb <;> simp
  rcases hcase with rfl | ⟨rfl, rfl⟩ | ⟨rfl, rfl, rfl⟩ | ⟨rfl, rfl, rfl⟩
  all_goals
    go_enter Tryd.func15, Tryd.ntmps15
    go_wp2_with (first
      | ((with_reducible show wpList _ _ _ (⟨some 11, _, _, _, _, _⟩ :: _) _ _); refine wpList_load_mid (by rfl) 84 (.tmp 10) (by rfl) 0 (k * 4) (by rfl) (opL U 2 lo hi) _ (HU.out _ (below_alloc0 _ _)) Tryd.underlying84 rfl infoOp ?_)
      | ((with_reducible show wpList _ _ _ (⟨some 13, _, _, _, _, _⟩ :: _) _ _); refine wpl_gen (CK w (inC (k : Int) a b c) #[.string U, .int .i64 2, .int .i64 lo, .int .i64 hi]) (ck_new w _ _) ?_; intro V hV; have c0 := hV.1.cell 0; have c1 := hV.1.cell 1; have c2 := hV.1.cell 2; have c3 := hV.1.cell 3; have d0 := hV.2.1.cell 0; have d1 := hV.2.1.cell 1; have d2 := hV.2.1.cell 2; have d3 := hV.2.1.cell 3; have HV := Lib.hid hV; clear hV)
      | (go_at_call 46; refine (HI.out _).mono ?_; rintro e w' ⟨rfl, rfl⟩)
      | (go_at_call 47; refine (HA.out _).mono ?_; rintro e V1 ⟨rfl, hb⟩; replace HV := Lib.hid (HV.out.under hb); clear hb c0 c1 c2 c3 d0 d1 d2 d3; have c0 := HV.out.1.cell 0; have c1 := HV.out.1.cell 1; have c2 := HV.out.1.cell 2; have c3 := HV.out.1.cell 3; have d0 := HV.out.2.1.cell 0; have d1 := HV.out.2.1.cell 1; have d2 := HV.out.2.1.cell 2; have d3 := HV.out.2.1.cell 3)
      | (go_at_call 48; refine (HB.out _).mono ?_; rintro e V1 ⟨rfl, hb⟩; replace HV := Lib.hid (HV.out.under hb); clear hb c0 c1 c2 c3 d0 d1 d2 d3; have c0 := HV.out.1.cell 0; have c1 := HV.out.1.cell 1; have c2 := HV.out.1.cell 2; have c3 := HV.out.1.cell 3; have d0 := HV.out.2.1.cell 0; have d1 := HV.out.2.1.cell 1; have d2 := HV.out.2.1.cell 2; have d3 := HV.out.2.1.cell 3)
      | (go_at_call 49; refine (HC.out _).mono ?_; rintro e V1 ⟨rfl, hb⟩; replace HV := Lib.hid (HV.out.under hb); clear hb c0 c1 c2 c3 d0 d1 d2 d3; have c0 := HV.out.1.cell 0; have c1 := HV.out.1.cell 1; have c2 := HV.out.1.cell 2; have c3 := HV.out.1.cell 3; have d0 := HV.out.2.1.cell 0; have d1 := HV.out.2.1.cell 1; have d2 := HV.out.2.1.cell 2; have d3 := HV.out.2.1.cell 3)
      | (go_at_call 50; refine (HN.out _).mono ?_; rintro e V1 ⟨rfl, hb⟩; replace HV := Lib.hid (HV.out.under hb); clear hb c0 c1 c2 c3 d0 d1 d2 d3; have c0 := HV.out.1.cell 0; have c1 := HV.out.1.cell 1; have c2 := HV.out.1.cell 2; have c3 := HV.out.1.cell 3; have d0 := HV.out.2.1.cell 0; have d1 := HV.out.2.1.cell 1; have d2 := HV.out.2.1.cell 2; have d3 := HV.out.2.1.cell 3)
      | (go_at_call 51; (with_reducible refine (HRA.out _).mono ?_); rintro e w' ⟨rfl, rfl⟩)
      | (go_at_call 51; (with_reducible refine (HRB.out _).mono ?_); rintro e w' ⟨rfl, rfl⟩)
      | (go_at_call 51; (with_reducible refine (HRC.out _).mono ?_); rintro e w' ⟨rfl, rfl⟩))
  all_goals (go_ret; exact ⟨by rw [HR.out]; rfl, HV.out.2.2⟩)
set_option maxHeartbeats 2000000 in
set_option maxRecDepth 100000 in
theorem check_f3 (k : Nat) (U : ByteArray) (lo hi a b c : Int) (w : World) (hk : k < 27) (hu : ∀ W, Below w.heap.size w W → W.rangeAt 0 (k * 4) (opL U 3 lo hi)) :
    Calls Tryd.prog 15 #[inV (k : Int) a b c] w fun e w' => e = .returned (.int .i64 (chkB 3 lo hi a b c)) ∧ Below w.heap.size w w' := by
  have hk2 : (k : Int) < 27 := by omega
  have HU := Lib.hid hu
  obtain ⟨R, hR⟩ : ∃ R, R = chkB 3 lo hi a b c := ⟨_, rfl⟩
  rw [← hR]
  unfold chkB at hR
  obtain ⟨a0, ha0⟩ : ∃ a0, (a != 0) = a0 := ⟨_, rfl⟩
  obtain ⟨b0, hb0⟩ : ∃ b0, (b != 0) = b0 := ⟨_, rfl⟩
  obtain ⟨c0, hc0⟩ : ∃ c0, (c != 0) = c0 := ⟨_, rfl⟩
  obtain ⟨ra, hra⟩ : ∃ ra, isReg a = ra := ⟨_, rfl⟩
  obtain ⟨rb, hrb⟩ : ∃ rb, isReg b = rb := ⟨_, rfl⟩
  obtain ⟨rc, hrc⟩ : ∃ rc, isReg c = rc := ⟨_, rfl⟩
  obtain ⟨x, hx⟩ : ∃ x, decide (c < lo) = x := ⟨_, rfl⟩
  obtain ⟨y, hy⟩ : ∃ y, decide (hi < c) = y := ⟨_, rfl⟩
  rw [ha0, hb0, hc0, hra, hrb, hrc, hx, hy] at hR
  have HI : Hid (∀ W, Calls Tryd.prog 46 #[.int .i64 (k : Int)] W fun e w' => e = .returned (.bool true) ∧ W = w') := Lib.hid fun W => by
    rw [← isOp_in (op := (k : Int)) (by omega) (by omega)]; exact (isOp_any k W).mono fun _ _ h => ⟨h.1, h.2.symm⟩
  have HA : Hid (∀ W, Calls Tryd.prog 47 #[opC U 3 lo hi] W fun e w' => e = .returned (.bool (useA 3)) ∧ Below W.heap.size W w') := Lib.hid fun W => usesA_any U 3 lo hi (by decide) W
  have HB : Hid (∀ W, Calls Tryd.prog 48 #[opC U 3 lo hi] W fun e w' => e = .returned (.bool (useB 3)) ∧ Below W.heap.size W w') := Lib.hid fun W => usesB_any U 3 lo hi (by decide) W
  have HC : Hid (∀ W, Calls Tryd.prog 49 #[opC U 3 lo hi] W fun e w' => e = .returned (.bool (useC 3)) ∧ Below W.heap.size W w') := Lib.hid fun W => usesC_any U 3 lo hi (by decide) W
  have HN : Hid (∀ W, Calls Tryd.prog 50 #[opC U 3 lo hi] W fun e w' => e = .returned (.bool (useN 3)) ∧ Below W.heap.size W w') := Lib.hid fun W => usesNumber_any U 3 lo hi (by decide) W
  rw [show useA 3 = true from rfl] at HA hR
  rw [show useB 3 = true from rfl] at HB hR
  rw [show useC 3 = true from rfl] at HC hR
  rw [show useN 3 = false from rfl] at HN hR
  have HRA : Hid (∀ W, Calls Tryd.prog 51 #[.int .i64 a] W fun e w' => e = .returned (.bool ra) ∧ W = w') := Lib.hid fun W => by rw [← hra]; exact (isReg_any a W).mono fun _ _ h => ⟨h.1, h.2.symm⟩
  have HRB : Hid (∀ W, Calls Tryd.prog 51 #[.int .i64 b] W fun e w' => e = .returned (.bool rb) ∧ W = w') := Lib.hid fun W => by rw [← hrb]; exact (isReg_any b W).mono fun _ _ h => ⟨h.1, h.2.symm⟩
  have HRC : Hid (∀ W, Calls Tryd.prog 51 #[.int .i64 c] W fun e w' => e = .returned (.bool rc) ∧ W = w') := Lib.hid fun W => by rw [← hrc]; exact (isReg_any c W).mono fun _ _ h => ⟨h.1, h.2.symm⟩
  have HR := Lib.hid hR
  clear hu hR hra hrb hrc hk
  have hcase : (ra = false) ∨ (ra = true ∧ rb = false) ∨ (ra = true ∧ rb = true ∧ rc = false) ∨ (ra = true ∧ rb = true ∧ rc = true) := by
    cases ra <;> cases rb <;> cases rc <;> simp
  rcases hcase with rfl | ⟨rfl, rfl⟩ | ⟨rfl, rfl, rfl⟩ | ⟨rfl, rfl, rfl⟩
  all_goals
    go_enter Tryd.func15, Tryd.ntmps15
    go_wp2_with (first
      | ((with_reducible show wpList _ _ _ (⟨some 11, _, _, _, _, _⟩ :: _) _ _); refine wpList_load_mid (by rfl) 84 (.tmp 10) (by rfl) 0 (k * 4) (by rfl) (opL U 3 lo hi) _ (HU.out _ (below_alloc0 _ _)) Tryd.underlying84 rfl infoOp ?_)
      | ((with_reducible show wpList _ _ _ (⟨some 13, _, _, _, _, _⟩ :: _) _ _); refine wpl_gen (CK w (inC (k : Int) a b c) #[.string U, .int .i64 3, .int .i64 lo, .int .i64 hi]) (ck_new w _ _) ?_; intro V hV; have c0 := hV.1.cell 0; have c1 := hV.1.cell 1; have c2 := hV.1.cell 2; have c3 := hV.1.cell 3; have d0 := hV.2.1.cell 0; have d1 := hV.2.1.cell 1; have d2 := hV.2.1.cell 2; have d3 := hV.2.1.cell 3; have HV := Lib.hid hV; clear hV)
      | (go_at_call 46; refine (HI.out _).mono ?_; rintro e w' ⟨rfl, rfl⟩)
      | (go_at_call 47; refine (HA.out _).mono ?_; rintro e V1 ⟨rfl, hb⟩; replace HV := Lib.hid (HV.out.under hb); clear hb c0 c1 c2 c3 d0 d1 d2 d3; have c0 := HV.out.1.cell 0; have c1 := HV.out.1.cell 1; have c2 := HV.out.1.cell 2; have c3 := HV.out.1.cell 3; have d0 := HV.out.2.1.cell 0; have d1 := HV.out.2.1.cell 1; have d2 := HV.out.2.1.cell 2; have d3 := HV.out.2.1.cell 3)
      | (go_at_call 48; refine (HB.out _).mono ?_; rintro e V1 ⟨rfl, hb⟩; replace HV := Lib.hid (HV.out.under hb); clear hb c0 c1 c2 c3 d0 d1 d2 d3; have c0 := HV.out.1.cell 0; have c1 := HV.out.1.cell 1; have c2 := HV.out.1.cell 2; have c3 := HV.out.1.cell 3; have d0 := HV.out.2.1.cell 0; have d1 := HV.out.2.1.cell 1; have d2 := HV.out.2.1.cell 2; have d3 := HV.out.2.1.cell 3)
      | (go_at_call 49; refine (HC.out _).mono ?_; rintro e V1 ⟨rfl, hb⟩; replace HV := Lib.hid (HV.out.under hb); clear hb c0 c1 c2 c3 d0 d1 d2 d3; have c0 := HV.out.1.cell 0; have c1 := HV.out.1.cell 1; have c2 := HV.out.1.cell 2; have c3 := HV.out.1.cell 3; have d0 := HV.out.2.1.cell 0; have d1 := HV.out.2.1.cell 1; have d2 := HV.out.2.1.cell 2; have d3 := HV.out.2.1.cell 3)
      | (go_at_call 50; refine (HN.out _).mono ?_; rintro e V1 ⟨rfl, hb⟩; replace HV := Lib.hid (HV.out.under hb); clear hb c0 c1 c2 c3 d0 d1 d2 d3; have c0 := HV.out.1.cell 0; have c1 := HV.out.1.cell 1; have c2 := HV.out.1.cell 2; have c3 := HV.out.1.cell 3; have d0 := HV.out.2.1.cell 0; have d1 := HV.out.2.1.cell 1; have d2 := HV.out.2.1.cell 2; have d3 := HV.out.2.1.cell 3)
      | (go_at_call 51; (with_reducible refine (HRA.out _).mono ?_); rintro e w' ⟨rfl, rfl⟩)
      | (go_at_call 51; (with_reducible refine (HRB.out _).mono ?_); rintro e w' ⟨rfl, rfl⟩)
      | (go_at_call 51; (with_reducible refine (HRC.out _).mono ?_); rintro e w' ⟨rfl, rfl⟩))
  all_goals (go_ret; exact ⟨by rw [HR.out]; rfl, HV.out.2.2⟩)
set_option maxHeartbeats 2000000 in
set_option maxRecDepth 100000 in
theorem check_f4 (k : Nat) (U : ByteArray) (lo hi a b c : Int) (w : World) (hk : k < 27) (hu : ∀ W, Below w.heap.size w W → W.rangeAt 0 (k * 4) (opL U 4 lo hi)) :
    Calls Tryd.prog 15 #[inV (k : Int) a b c] w fun e w' => e = .returned (.int .i64 (chkB 4 lo hi a b c)) ∧ Below w.heap.size w w' := by
  have hk2 : (k : Int) < 27 := by omega
  have HU := Lib.hid hu
  obtain ⟨R, hR⟩ : ∃ R, R = chkB 4 lo hi a b c := ⟨_, rfl⟩
  rw [← hR]
  unfold chkB at hR
  obtain ⟨a0, ha0⟩ : ∃ a0, (a != 0) = a0 := ⟨_, rfl⟩
  obtain ⟨b0, hb0⟩ : ∃ b0, (b != 0) = b0 := ⟨_, rfl⟩
  obtain ⟨c0, hc0⟩ : ∃ c0, (c != 0) = c0 := ⟨_, rfl⟩
  obtain ⟨ra, hra⟩ : ∃ ra, isReg a = ra := ⟨_, rfl⟩
  obtain ⟨rb, hrb⟩ : ∃ rb, isReg b = rb := ⟨_, rfl⟩
  obtain ⟨rc, hrc⟩ : ∃ rc, isReg c = rc := ⟨_, rfl⟩
  obtain ⟨x, hx⟩ : ∃ x, decide (c < lo) = x := ⟨_, rfl⟩
  obtain ⟨y, hy⟩ : ∃ y, decide (hi < c) = y := ⟨_, rfl⟩
  rw [ha0, hb0, hc0, hra, hrb, hrc, hx, hy] at hR
  have HI : Hid (∀ W, Calls Tryd.prog 46 #[.int .i64 (k : Int)] W fun e w' => e = .returned (.bool true) ∧ W = w') := Lib.hid fun W => by
    rw [← isOp_in (op := (k : Int)) (by omega) (by omega)]; exact (isOp_any k W).mono fun _ _ h => ⟨h.1, h.2.symm⟩
  have HA : Hid (∀ W, Calls Tryd.prog 47 #[opC U 4 lo hi] W fun e w' => e = .returned (.bool (useA 4)) ∧ Below W.heap.size W w') := Lib.hid fun W => usesA_any U 4 lo hi (by decide) W
  have HB : Hid (∀ W, Calls Tryd.prog 48 #[opC U 4 lo hi] W fun e w' => e = .returned (.bool (useB 4)) ∧ Below W.heap.size W w') := Lib.hid fun W => usesB_any U 4 lo hi (by decide) W
  have HC : Hid (∀ W, Calls Tryd.prog 49 #[opC U 4 lo hi] W fun e w' => e = .returned (.bool (useC 4)) ∧ Below W.heap.size W w') := Lib.hid fun W => usesC_any U 4 lo hi (by decide) W
  have HN : Hid (∀ W, Calls Tryd.prog 50 #[opC U 4 lo hi] W fun e w' => e = .returned (.bool (useN 4)) ∧ Below W.heap.size W w') := Lib.hid fun W => usesNumber_any U 4 lo hi (by decide) W
  rw [show useA 4 = true from rfl] at HA hR
  rw [show useB 4 = false from rfl] at HB hR
  rw [show useC 4 = false from rfl] at HC hR
  rw [show useN 4 = true from rfl] at HN hR
  have HRA : Hid (∀ W, Calls Tryd.prog 51 #[.int .i64 a] W fun e w' => e = .returned (.bool ra) ∧ W = w') := Lib.hid fun W => by rw [← hra]; exact (isReg_any a W).mono fun _ _ h => ⟨h.1, h.2.symm⟩
  have HRB : Hid (∀ W, Calls Tryd.prog 51 #[.int .i64 b] W fun e w' => e = .returned (.bool rb) ∧ W = w') := Lib.hid fun W => by rw [← hrb]; exact (isReg_any b W).mono fun _ _ h => ⟨h.1, h.2.symm⟩
  have HRC : Hid (∀ W, Calls Tryd.prog 51 #[.int .i64 c] W fun e w' => e = .returned (.bool rc) ∧ W = w') := Lib.hid fun W => by rw [← hrc]; exact (isReg_any c W).mono fun _ _ h => ⟨h.1, h.2.symm⟩
  have HR := Lib.hid hR
  clear hu hR hra hrb hrc hk
  have hcase : (b0 = true) ∨ (b0 = false ∧ ra = false) ∨ (b0 = false ∧ ra = true ∧ rb = false) ∨ (b0 = false ∧ ra = true ∧ rb = true ∧ x = true) ∨ (b0 = false ∧ ra = true ∧ rb = true ∧ x = false ∧ y = true) ∨ (b0 = false ∧ ra = true ∧ rb = true ∧ x = false ∧ y = false) := by
    cases b0 <;> cases ra <;> cases rb <;> cases x <;> cases y <;> simp
  rcases hcase with rfl | ⟨rfl, rfl⟩ | ⟨rfl, rfl, rfl⟩ | ⟨rfl, rfl, rfl, rfl⟩ | ⟨rfl, rfl, rfl, rfl, rfl⟩ | ⟨rfl, rfl, rfl, rfl, rfl⟩
  all_goals
    go_enter Tryd.func15, Tryd.ntmps15
    go_wp2_with (first
      | ((with_reducible show wpList _ _ _ (⟨some 11, _, _, _, _, _⟩ :: _) _ _); refine wpList_load_mid (by rfl) 84 (.tmp 10) (by rfl) 0 (k * 4) (by rfl) (opL U 4 lo hi) _ (HU.out _ (below_alloc0 _ _)) Tryd.underlying84 rfl infoOp ?_)
      | ((with_reducible show wpList _ _ _ (⟨some 13, _, _, _, _, _⟩ :: _) _ _); refine wpl_gen (CK w (inC (k : Int) a b c) #[.string U, .int .i64 4, .int .i64 lo, .int .i64 hi]) (ck_new w _ _) ?_; intro V hV; have c0 := hV.1.cell 0; have c1 := hV.1.cell 1; have c2 := hV.1.cell 2; have c3 := hV.1.cell 3; have d0 := hV.2.1.cell 0; have d1 := hV.2.1.cell 1; have d2 := hV.2.1.cell 2; have d3 := hV.2.1.cell 3; have HV := Lib.hid hV; clear hV)
      | (go_at_call 46; refine (HI.out _).mono ?_; rintro e w' ⟨rfl, rfl⟩)
      | (go_at_call 47; refine (HA.out _).mono ?_; rintro e V1 ⟨rfl, hb⟩; replace HV := Lib.hid (HV.out.under hb); clear hb c0 c1 c2 c3 d0 d1 d2 d3; have c0 := HV.out.1.cell 0; have c1 := HV.out.1.cell 1; have c2 := HV.out.1.cell 2; have c3 := HV.out.1.cell 3; have d0 := HV.out.2.1.cell 0; have d1 := HV.out.2.1.cell 1; have d2 := HV.out.2.1.cell 2; have d3 := HV.out.2.1.cell 3)
      | (go_at_call 48; refine (HB.out _).mono ?_; rintro e V1 ⟨rfl, hb⟩; replace HV := Lib.hid (HV.out.under hb); clear hb c0 c1 c2 c3 d0 d1 d2 d3; have c0 := HV.out.1.cell 0; have c1 := HV.out.1.cell 1; have c2 := HV.out.1.cell 2; have c3 := HV.out.1.cell 3; have d0 := HV.out.2.1.cell 0; have d1 := HV.out.2.1.cell 1; have d2 := HV.out.2.1.cell 2; have d3 := HV.out.2.1.cell 3)
      | (go_at_call 49; refine (HC.out _).mono ?_; rintro e V1 ⟨rfl, hb⟩; replace HV := Lib.hid (HV.out.under hb); clear hb c0 c1 c2 c3 d0 d1 d2 d3; have c0 := HV.out.1.cell 0; have c1 := HV.out.1.cell 1; have c2 := HV.out.1.cell 2; have c3 := HV.out.1.cell 3; have d0 := HV.out.2.1.cell 0; have d1 := HV.out.2.1.cell 1; have d2 := HV.out.2.1.cell 2; have d3 := HV.out.2.1.cell 3)
      | (go_at_call 50; refine (HN.out _).mono ?_; rintro e V1 ⟨rfl, hb⟩; replace HV := Lib.hid (HV.out.under hb); clear hb c0 c1 c2 c3 d0 d1 d2 d3; have c0 := HV.out.1.cell 0; have c1 := HV.out.1.cell 1; have c2 := HV.out.1.cell 2; have c3 := HV.out.1.cell 3; have d0 := HV.out.2.1.cell 0; have d1 := HV.out.2.1.cell 1; have d2 := HV.out.2.1.cell 2; have d3 := HV.out.2.1.cell 3)
      | (go_at_call 51; (with_reducible refine (HRA.out _).mono ?_); rintro e w' ⟨rfl, rfl⟩)
      | (go_at_call 51; (with_reducible refine (HRB.out _).mono ?_); rintro e w' ⟨rfl, rfl⟩)
      | (go_at_call 51; (with_reducible refine (HRC.out _).mono ?_); rintro e w' ⟨rfl, rfl⟩))
  all_goals (go_ret; exact ⟨by rw [HR.out]; rfl, HV.out.2.2⟩)
set_option maxHeartbeats 2000000 in
set_option maxRecDepth 100000 in
theorem check_f5 (k : Nat) (U : ByteArray) (lo hi a b c : Int) (w : World) (hk : k < 27) (hu : ∀ W, Below w.heap.size w W → W.rangeAt 0 (k * 4) (opL U 5 lo hi)) :
    Calls Tryd.prog 15 #[inV (k : Int) a b c] w fun e w' => e = .returned (.int .i64 (chkB 5 lo hi a b c)) ∧ Below w.heap.size w w' := by
  have hk2 : (k : Int) < 27 := by omega
  have HU := Lib.hid hu
  obtain ⟨R, hR⟩ : ∃ R, R = chkB 5 lo hi a b c := ⟨_, rfl⟩
  rw [← hR]
  unfold chkB at hR
  obtain ⟨a0, ha0⟩ : ∃ a0, (a != 0) = a0 := ⟨_, rfl⟩
  obtain ⟨b0, hb0⟩ : ∃ b0, (b != 0) = b0 := ⟨_, rfl⟩
  obtain ⟨c0, hc0⟩ : ∃ c0, (c != 0) = c0 := ⟨_, rfl⟩
  obtain ⟨ra, hra⟩ : ∃ ra, isReg a = ra := ⟨_, rfl⟩
  obtain ⟨rb, hrb⟩ : ∃ rb, isReg b = rb := ⟨_, rfl⟩
  obtain ⟨rc, hrc⟩ : ∃ rc, isReg c = rc := ⟨_, rfl⟩
  obtain ⟨x, hx⟩ : ∃ x, decide (c < lo) = x := ⟨_, rfl⟩
  obtain ⟨y, hy⟩ : ∃ y, decide (hi < c) = y := ⟨_, rfl⟩
  rw [ha0, hb0, hc0, hra, hrb, hrc, hx, hy] at hR
  have HI : Hid (∀ W, Calls Tryd.prog 46 #[.int .i64 (k : Int)] W fun e w' => e = .returned (.bool true) ∧ W = w') := Lib.hid fun W => by
    rw [← isOp_in (op := (k : Int)) (by omega) (by omega)]; exact (isOp_any k W).mono fun _ _ h => ⟨h.1, h.2.symm⟩
  have HA : Hid (∀ W, Calls Tryd.prog 47 #[opC U 5 lo hi] W fun e w' => e = .returned (.bool (useA 5)) ∧ Below W.heap.size W w') := Lib.hid fun W => usesA_any U 5 lo hi (by decide) W
  have HB : Hid (∀ W, Calls Tryd.prog 48 #[opC U 5 lo hi] W fun e w' => e = .returned (.bool (useB 5)) ∧ Below W.heap.size W w') := Lib.hid fun W => usesB_any U 5 lo hi (by decide) W
  have HC : Hid (∀ W, Calls Tryd.prog 49 #[opC U 5 lo hi] W fun e w' => e = .returned (.bool (useC 5)) ∧ Below W.heap.size W w') := Lib.hid fun W => usesC_any U 5 lo hi (by decide) W
  have HN : Hid (∀ W, Calls Tryd.prog 50 #[opC U 5 lo hi] W fun e w' => e = .returned (.bool (useN 5)) ∧ Below W.heap.size W w') := Lib.hid fun W => usesNumber_any U 5 lo hi (by decide) W
  rw [show useA 5 = true from rfl] at HA hR
  rw [show useB 5 = true from rfl] at HB hR
  rw [show useC 5 = false from rfl] at HC hR
  rw [show useN 5 = true from rfl] at HN hR
  have HRA : Hid (∀ W, Calls Tryd.prog 51 #[.int .i64 a] W fun e w' => e = .returned (.bool ra) ∧ W = w') := Lib.hid fun W => by rw [← hra]; exact (isReg_any a W).mono fun _ _ h => ⟨h.1, h.2.symm⟩
  have HRB : Hid (∀ W, Calls Tryd.prog 51 #[.int .i64 b] W fun e w' => e = .returned (.bool rb) ∧ W = w') := Lib.hid fun W => by rw [← hrb]; exact (isReg_any b W).mono fun _ _ h => ⟨h.1, h.2.symm⟩
  have HRC : Hid (∀ W, Calls Tryd.prog 51 #[.int .i64 c] W fun e w' => e = .returned (.bool rc) ∧ W = w') := Lib.hid fun W => by rw [← hrc]; exact (isReg_any c W).mono fun _ _ h => ⟨h.1, h.2.symm⟩
  have HR := Lib.hid hR
  clear hu hR hra hrb hrc hk
  have hcase : (ra = false) ∨ (ra = true ∧ rb = false) ∨ (ra = true ∧ rb = true ∧ x = true) ∨ (ra = true ∧ rb = true ∧ x = false ∧ y = true) ∨ (ra = true ∧ rb = true ∧ x = false ∧ y = false) := by
    cases ra <;> cases rb <;> cases x <;> cases y <;> simp
  rcases hcase with rfl | ⟨rfl, rfl⟩ | ⟨rfl, rfl, rfl⟩ | ⟨rfl, rfl, rfl, rfl⟩ | ⟨rfl, rfl, rfl, rfl⟩
  all_goals
    go_enter Tryd.func15, Tryd.ntmps15
    go_wp2_with (first
      | ((with_reducible show wpList _ _ _ (⟨some 11, _, _, _, _, _⟩ :: _) _ _); refine wpList_load_mid (by rfl) 84 (.tmp 10) (by rfl) 0 (k * 4) (by rfl) (opL U 5 lo hi) _ (HU.out _ (below_alloc0 _ _)) Tryd.underlying84 rfl infoOp ?_)
      | ((with_reducible show wpList _ _ _ (⟨some 13, _, _, _, _, _⟩ :: _) _ _); refine wpl_gen (CK w (inC (k : Int) a b c) #[.string U, .int .i64 5, .int .i64 lo, .int .i64 hi]) (ck_new w _ _) ?_; intro V hV; have c0 := hV.1.cell 0; have c1 := hV.1.cell 1; have c2 := hV.1.cell 2; have c3 := hV.1.cell 3; have d0 := hV.2.1.cell 0; have d1 := hV.2.1.cell 1; have d2 := hV.2.1.cell 2; have d3 := hV.2.1.cell 3; have HV := Lib.hid hV; clear hV)
      | (go_at_call 46; refine (HI.out _).mono ?_; rintro e w' ⟨rfl, rfl⟩)
      | (go_at_call 47; refine (HA.out _).mono ?_; rintro e V1 ⟨rfl, hb⟩; replace HV := Lib.hid (HV.out.under hb); clear hb c0 c1 c2 c3 d0 d1 d2 d3; have c0 := HV.out.1.cell 0; have c1 := HV.out.1.cell 1; have c2 := HV.out.1.cell 2; have c3 := HV.out.1.cell 3; have d0 := HV.out.2.1.cell 0; have d1 := HV.out.2.1.cell 1; have d2 := HV.out.2.1.cell 2; have d3 := HV.out.2.1.cell 3)
      | (go_at_call 48; refine (HB.out _).mono ?_; rintro e V1 ⟨rfl, hb⟩; replace HV := Lib.hid (HV.out.under hb); clear hb c0 c1 c2 c3 d0 d1 d2 d3; have c0 := HV.out.1.cell 0; have c1 := HV.out.1.cell 1; have c2 := HV.out.1.cell 2; have c3 := HV.out.1.cell 3; have d0 := HV.out.2.1.cell 0; have d1 := HV.out.2.1.cell 1; have d2 := HV.out.2.1.cell 2; have d3 := HV.out.2.1.cell 3)
      | (go_at_call 49; refine (HC.out _).mono ?_; rintro e V1 ⟨rfl, hb⟩; replace HV := Lib.hid (HV.out.under hb); clear hb c0 c1 c2 c3 d0 d1 d2 d3; have c0 := HV.out.1.cell 0; have c1 := HV.out.1.cell 1; have c2 := HV.out.1.cell 2; have c3 := HV.out.1.cell 3; have d0 := HV.out.2.1.cell 0; have d1 := HV.out.2.1.cell 1; have d2 := HV.out.2.1.cell 2; have d3 := HV.out.2.1.cell 3)
      | (go_at_call 50; refine (HN.out _).mono ?_; rintro e V1 ⟨rfl, hb⟩; replace HV := Lib.hid (HV.out.under hb); clear hb c0 c1 c2 c3 d0 d1 d2 d3; have c0 := HV.out.1.cell 0; have c1 := HV.out.1.cell 1; have c2 := HV.out.1.cell 2; have c3 := HV.out.1.cell 3; have d0 := HV.out.2.1.cell 0; have d1 := HV.out.2.1.cell 1; have d2 := HV.out.2.1.cell 2; have d3 := HV.out.2.1.cell 3)
      | (go_at_call 51; (with_reducible refine (HRA.out _).mono ?_); rintro e w' ⟨rfl, rfl⟩)
      | (go_at_call 51; (with_reducible refine (HRB.out _).mono ?_); rintro e w' ⟨rfl, rfl⟩)
      | (go_at_call 51; (with_reducible refine (HRC.out _).mono ?_); rintro e w' ⟨rfl, rfl⟩))
  all_goals (go_ret; exact ⟨by rw [HR.out]; rfl, HV.out.2.2⟩)
set_option maxHeartbeats 2000000 in
set_option maxRecDepth 100000 in
theorem check_f6 (k : Nat) (U : ByteArray) (lo hi a b c : Int) (w : World) (hk : k < 27) (hu : ∀ W, Below w.heap.size w W → W.rangeAt 0 (k * 4) (opL U 6 lo hi)) :
    Calls Tryd.prog 15 #[inV (k : Int) a b c] w fun e w' => e = .returned (.int .i64 (chkB 6 lo hi a b c)) ∧ Below w.heap.size w w' := by
  have hk2 : (k : Int) < 27 := by omega
  have HU := Lib.hid hu
  obtain ⟨R, hR⟩ : ∃ R, R = chkB 6 lo hi a b c := ⟨_, rfl⟩
  rw [← hR]
  unfold chkB at hR
  obtain ⟨a0, ha0⟩ : ∃ a0, (a != 0) = a0 := ⟨_, rfl⟩
  obtain ⟨b0, hb0⟩ : ∃ b0, (b != 0) = b0 := ⟨_, rfl⟩
  obtain ⟨c0, hc0⟩ : ∃ c0, (c != 0) = c0 := ⟨_, rfl⟩
  obtain ⟨ra, hra⟩ : ∃ ra, isReg a = ra := ⟨_, rfl⟩
  obtain ⟨rb, hrb⟩ : ∃ rb, isReg b = rb := ⟨_, rfl⟩
  obtain ⟨rc, hrc⟩ : ∃ rc, isReg c = rc := ⟨_, rfl⟩
  obtain ⟨x, hx⟩ : ∃ x, decide (c < lo) = x := ⟨_, rfl⟩
  obtain ⟨y, hy⟩ : ∃ y, decide (hi < c) = y := ⟨_, rfl⟩
  rw [ha0, hb0, hc0, hra, hrb, hrc, hx, hy] at hR
  have HI : Hid (∀ W, Calls Tryd.prog 46 #[.int .i64 (k : Int)] W fun e w' => e = .returned (.bool true) ∧ W = w') := Lib.hid fun W => by
    rw [← isOp_in (op := (k : Int)) (by omega) (by omega)]; exact (isOp_any k W).mono fun _ _ h => ⟨h.1, h.2.symm⟩
  have HA : Hid (∀ W, Calls Tryd.prog 47 #[opC U 6 lo hi] W fun e w' => e = .returned (.bool (useA 6)) ∧ Below W.heap.size W w') := Lib.hid fun W => usesA_any U 6 lo hi (by decide) W
  have HB : Hid (∀ W, Calls Tryd.prog 48 #[opC U 6 lo hi] W fun e w' => e = .returned (.bool (useB 6)) ∧ Below W.heap.size W w') := Lib.hid fun W => usesB_any U 6 lo hi (by decide) W
  have HC : Hid (∀ W, Calls Tryd.prog 49 #[opC U 6 lo hi] W fun e w' => e = .returned (.bool (useC 6)) ∧ Below W.heap.size W w') := Lib.hid fun W => usesC_any U 6 lo hi (by decide) W
  have HN : Hid (∀ W, Calls Tryd.prog 50 #[opC U 6 lo hi] W fun e w' => e = .returned (.bool (useN 6)) ∧ Below W.heap.size W w') := Lib.hid fun W => usesNumber_any U 6 lo hi (by decide) W
  rw [show useA 6 = false from rfl] at HA hR
  rw [show useB 6 = false from rfl] at HB hR
  rw [show useC 6 = false from rfl] at HC hR
  rw [show useN 6 = true from rfl] at HN hR
  have HRA : Hid (∀ W, Calls Tryd.prog 51 #[.int .i64 a] W fun e w' => e = .returned (.bool ra) ∧ W = w') := Lib.hid fun W => by rw [← hra]; exact (isReg_any a W).mono fun _ _ h => ⟨h.1, h.2.symm⟩
  have HRB : Hid (∀ W, Calls Tryd.prog 51 #[.int .i64 b] W fun e w' => e = .returned (.bool rb) ∧ W = w') := Lib.hid fun W => by rw [← hrb]; exact (isReg_any b W).mono fun _ _ h => ⟨h.1, h.2.symm⟩
  have HRC : Hid (∀ W, Calls Tryd.prog 51 #[.int .i64 c] W fun e w' => e = .returned (.bool rc) ∧ W = w') := Lib.hid fun W => by rw [← hrc]; exact (isReg_any c W).mono fun _ _ h => ⟨h.1, h.2.symm⟩
  have HR := Lib.hid hR
  clear hu hR hra hrb hrc hk
  have hcase : (a0 = true) ∨ (a0 = false ∧ b0 = true) ∨ (a0 = false ∧ b0 = false ∧ ra = false) ∨ (a0 = false ∧ b0 = false ∧ ra = true ∧ rb = false) ∨ (a0 = false ∧ b0 = false ∧ ra = true ∧ rb = true ∧ x = true) ∨ (a0 = false ∧ b0 = false ∧ ra = true ∧ rb = true ∧ x = false ∧ y = true) ∨ (a0 = false ∧ b0 = false ∧ ra = true ∧ rb = true ∧ x = false ∧ y = false) := by
    cases a0 <;> cases b0 <;> cases ra <;> cases rb <;> cases x <;> cases y <;> simp
  rcases hcase with rfl | ⟨rfl, rfl⟩ | ⟨rfl, rfl, rfl⟩ | ⟨rfl, rfl, rfl, rfl⟩ | ⟨rfl, rfl, rfl, rfl, rfl⟩ | ⟨rfl, rfl, rfl, rfl, rfl, rfl⟩ | ⟨rfl, rfl, rfl, rfl, rfl, rfl⟩
  all_goals
    go_enter Tryd.func15, Tryd.ntmps15
    go_wp2_with (first
      | ((with_reducible show wpList _ _ _ (⟨some 11, _, _, _, _, _⟩ :: _) _ _); refine wpList_load_mid (by rfl) 84 (.tmp 10) (by rfl) 0 (k * 4) (by rfl) (opL U 6 lo hi) _ (HU.out _ (below_alloc0 _ _)) Tryd.underlying84 rfl infoOp ?_)
      | ((with_reducible show wpList _ _ _ (⟨some 13, _, _, _, _, _⟩ :: _) _ _); refine wpl_gen (CK w (inC (k : Int) a b c) #[.string U, .int .i64 6, .int .i64 lo, .int .i64 hi]) (ck_new w _ _) ?_; intro V hV; have c0 := hV.1.cell 0; have c1 := hV.1.cell 1; have c2 := hV.1.cell 2; have c3 := hV.1.cell 3; have d0 := hV.2.1.cell 0; have d1 := hV.2.1.cell 1; have d2 := hV.2.1.cell 2; have d3 := hV.2.1.cell 3; have HV := Lib.hid hV; clear hV)
      | (go_at_call 46; refine (HI.out _).mono ?_; rintro e w' ⟨rfl, rfl⟩)
      | (go_at_call 47; refine (HA.out _).mono ?_; rintro e V1 ⟨rfl, hb⟩; replace HV := Lib.hid (HV.out.under hb); clear hb c0 c1 c2 c3 d0 d1 d2 d3; have c0 := HV.out.1.cell 0; have c1 := HV.out.1.cell 1; have c2 := HV.out.1.cell 2; have c3 := HV.out.1.cell 3; have d0 := HV.out.2.1.cell 0; have d1 := HV.out.2.1.cell 1; have d2 := HV.out.2.1.cell 2; have d3 := HV.out.2.1.cell 3)
      | (go_at_call 48; refine (HB.out _).mono ?_; rintro e V1 ⟨rfl, hb⟩; replace HV := Lib.hid (HV.out.under hb); clear hb c0 c1 c2 c3 d0 d1 d2 d3; have c0 := HV.out.1.cell 0; have c1 := HV.out.1.cell 1; have c2 := HV.out.1.cell 2; have c3 := HV.out.1.cell 3; have d0 := HV.out.2.1.cell 0; have d1 := HV.out.2.1.cell 1; have d2 := HV.out.2.1.cell 2; have d3 := HV.out.2.1.cell 3)
      | (go_at_call 49; refine (HC.out _).mono ?_; rintro e V1 ⟨rfl, hb⟩; replace HV := Lib.hid (HV.out.under hb); clear hb c0 c1 c2 c3 d0 d1 d2 d3; have c0 := HV.out.1.cell 0; have c1 := HV.out.1.cell 1; have c2 := HV.out.1.cell 2; have c3 := HV.out.1.cell 3; have d0 := HV.out.2.1.cell 0; have d1 := HV.out.2.1.cell 1; have d2 := HV.out.2.1.cell 2; have d3 := HV.out.2.1.cell 3)
      | (go_at_call 50; refine (HN.out _).mono ?_; rintro e V1 ⟨rfl, hb⟩; replace HV := Lib.hid (HV.out.under hb); clear hb c0 c1 c2 c3 d0 d1 d2 d3; have c0 := HV.out.1.cell 0; have c1 := HV.out.1.cell 1; have c2 := HV.out.1.cell 2; have c3 := HV.out.1.cell 3; have d0 := HV.out.2.1.cell 0; have d1 := HV.out.2.1.cell 1; have d2 := HV.out.2.1.cell 2; have d3 := HV.out.2.1.cell 3)
      | (go_at_call 51; (with_reducible refine (HRA.out _).mono ?_); rintro e w' ⟨rfl, rfl⟩)
      | (go_at_call 51; (with_reducible refine (HRB.out _).mono ?_); rintro e w' ⟨rfl, rfl⟩)
      | (go_at_call 51; (with_reducible refine (HRC.out _).mono ?_); rintro e w' ⟨rfl, rfl⟩))
  all_goals (go_ret; exact ⟨by rw [HR.out]; rfl, HV.out.2.2⟩)
end Go.Proofs.YtajkccigmiegkaaDoor
