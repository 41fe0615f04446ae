/- instr: the reference's Reads and Writes; Writes. -/
import Derived.Test.YtajkccigmiegkaaDoorIReads
set_option linter.unusedVariables false
namespace Go.Proofs.YtajkccigmiegkaaDoor
open Go.RowKit

/-- The reference's blocks: the instruction, the flags. -/
def RH (w : World) (cs : Array Value) (l : List Bool) (V : World) : Prop := Blk V w.heap.size 23 cs ∧ Blk V (w.heap.size + 1) 94 (bsC l) ∧ Below w.heap.size w V
theorem RH.under {w : World} {cs : Array Value} {l : List Bool} {V V' : World} (h : RH w cs l V) (hb : Below V.heap.size V V') : RH w cs l V' := ⟨h.1.under hb, h.2.1.under hb, h.2.2.trans (hb.mono h.2.2.size)⟩
theorem RH.set {w : World} {cs : Array Value} {l : List Bool} {V : World} (h : RH w cs l V) (i : Nat) : RH w cs (setIf true i l) (V.setCell ⟨w.heap.size + 1, i, none⟩ (.bool true)) := by
  refine ⟨h.1.far (by show w.heap.size ≠ w.heap.size + 1; omega) _, ?_, h.2.2.setCell (by show w.heap.size ≤ w.heap.size + 1; omega) _⟩
  have := h.2.1.set_ i (.bool true)
  rw [bsC_set] at this
  exact this
theorem rh_new (w : World) (cs : Array Value) : RH w cs no8 ((w.alloc (.cells cs 23)).alloc (.cells (bsC no8) 94)) := ⟨(Blk.new w _ _).alloc _, new2 w _ _ _ _, below2 w _ _⟩
theorem rh_under {w V : World} {cs : Array Value} (hb : Below ((w.alloc (.cells cs 23)).alloc (.cells (bsC no8) 94)).heap.size ((w.alloc (.cells cs 23)).alloc (.cells (bsC no8) 94)) V) : RH w cs no8 V := (rh_new w cs).under hb
set_option maxHeartbeats 4000000 in
set_option maxRecDepth 100000 in
theorem rreads_ok (op : Int) (a b c : Nat) (f : Int) (ra ub uc : Bool) (w : World) (ha : a < 8) (hb : b < 8) (hc : c < 8 ∨ uc = false) (C : Int) (hcC : uc = true → C = (c : Int))
    (hub : decide (f = 2 ∨ f = 3 ∨ f = 5) = ub) (huc : (f == 3) = uc) (hra : (ra = true ∧ uc = false ∧ (op = 3 ∨ op = 18 ∨ op = 20 ∨ op = 22 ∨ op = 23 ∨ op = 25)) ∨ (ra = false ∧ (op == 3) = false ∧ (op == 18) = false ∧ (op == 20) = false ∧ (op == 22) = false ∧ (op == 23) = false ∧ (op == 25) = false)) (hf : 0 ≤ f ∧ f ≤ 6)
    (hF : ∀ W, Calls Tryd.prog 18 #[.int .i64 op] W fun e w' => e = .returned (.tuple #[.int .i64 f, .int .i64 0]) ∧ W = w') (hchk : chkZ op (a : Int) (b : Int) C = 0) :
    Calls Tryd.prog 43 #[inV op (a : Int) (b : Int) C] w fun e w' => ∃ v, e = .returned v ∧ OQ encI 1 3 w' w.heap.size v (regsTo (rdL ra ub uc a b c) 8) ∧ Below w.heap.size w w' := by
  have HF := Lib.hid hF
  have HC : Hid (∀ W, Calls Tryd.prog 16 #[inV op (a : Int) (b : Int) C] W fun e w' => e = .returned (.int .i64 0) ∧ Below W.heap.size W w') := Lib.hid fun W => by rw [← hchk]; exact rcheck_any _ _ _ _ W
  have HB : Hid (∀ W, Calls Tryd.prog 53 #[.int .i64 f] W fun e w' => e = .returned (.bool ub) ∧ W = w') := Lib.hid fun W => by rw [← hub]; exact (hasB_any f hf W).mono fun _ _ h => ⟨h.1, h.2.symm⟩
  obtain ⟨L, hL⟩ : ∃ L, L = rdL ra ub uc a b c := ⟨_, rfl⟩
  rw [← hL]
  have h8 : L.length = 8 := by rw [hL]; exact rdL_len _ _ _ _ _ _
  have HR : Hid (∀ W, Calls Tryd.prog 60 #[.agg (bsC L)] W fun e w' => ∃ v, e = .returned v ∧ OQ encI 1 3 w' W.heap.size v (regsTo L 8) ∧ Below W.heap.size W w') := Lib.hid fun W => registers_any L h8 W
  have HL := Lib.hid hL
  have HCC := Lib.hid hcC
  have hc1 : uc = true → (c : Int) < 8 := fun h => by rcases hc with h' | h'; omega; rw [h] at h'; cases h'
  have HC1 := Lib.hid hc1
  have HIB := Lib.hid (show (Tryd.prog.info? 94).map (·.size) = some 8 by kernel_rfl)
  have ha1 : (a : Int) < 8 := by omega
  have hb1 : (b : Int) < 8 := by omega
  clear hF hchk hub hL hcC hc hc1 h8
  rcases hra with ⟨rfl, rfl, rfl | rfl | rfl | rfl | rfl | rfl⟩ | ⟨rfl, s1, s2, s3, s4, s5, s6⟩
  case' inr => cases uc
  all_goals
    cases ub
  all_goals
    try (obtain rfl : C = (c : Int) := HCC.out rfl)
    try (have hc1 := HC1.out rfl)
    go_enter Tryd.func43, Tryd.ntmps43
    go_wp2_with (first
      | (go_at_call 18; refine (HF.out _).mono ?_; rintro e w' ⟨rfl, rfl⟩)
      | (go_at_call 16; refine (HC.out _).mono ?_; rintro e V ⟨rfl, hb⟩; have HV := Lib.hid (rh_under hb); clear hb; have c0 := HV.out.1.cell 0; have c1 := HV.out.1.cell 1; have c2 := HV.out.1.cell 2; have c3 := HV.out.1.cell 3; have m1 := (HV.out.2.1.cell a).trans (bsC_get _ (by simp [setIf]; omega)); have m2 := (HV.out.2.1.cell b).trans (bsC_get _ (by simp [setIf]; omega)); (try have m3 := (HV.out.2.1.cell c).trans (bsC_get _ (by simp [setIf]; omega))); have n1 := HV.out.2.1.frozen a; have n2 := HV.out.2.1.frozen b; have n3 := HV.out.2.1.frozen c)
      | (go_at_call 53; refine (HB.out _).mono ?_; rintro e w' ⟨rfl, rfl⟩)
      | ((with_reducible show wpList _ _ _ (⟨some 47, _, _, _, _, _⟩ :: _) _ _); refine wpl_gen (RH w _ (setIf true a _)) (HV.out.set a) ?_; intro V3 hV; replace HV := Lib.hid hV; clear hV c0 c1 c2 c3 m1 m2 n1 n2 n3; have c0 := HV.out.1.cell 0; have c1 := HV.out.1.cell 1; have c2 := HV.out.1.cell 2; have c3 := HV.out.1.cell 3; have m1 := (HV.out.2.1.cell a).trans (bsC_get _ (by simp [setIf]; omega)); have m2 := (HV.out.2.1.cell b).trans (bsC_get _ (by simp [setIf]; omega)); (try have m3 := (HV.out.2.1.cell c).trans (bsC_get _ (by simp [setIf]; omega))); have n1 := HV.out.2.1.frozen a; have n2 := HV.out.2.1.frozen b; have n3 := HV.out.2.1.frozen c)
      | ((with_reducible show wpList _ _ _ (⟨some 52, _, _, _, _, _⟩ :: _) _ _); refine wpl_gen (RH w _ (setIf true b _)) (HV.out.set b) ?_; intro V5 hV; replace HV := Lib.hid hV; clear hV c0 c1 c2 c3 m1 m2 n1 n2 n3; have c0 := HV.out.1.cell 0; have c1 := HV.out.1.cell 1; have c2 := HV.out.1.cell 2; have c3 := HV.out.1.cell 3; have m1 := (HV.out.2.1.cell a).trans (bsC_get _ (by simp [setIf]; omega)); have m2 := (HV.out.2.1.cell b).trans (bsC_get _ (by simp [setIf]; omega)); (try have m3 := (HV.out.2.1.cell c).trans (bsC_get _ (by simp [setIf]; omega))); have n1 := HV.out.2.1.frozen a; have n2 := HV.out.2.1.frozen b; have n3 := HV.out.2.1.frozen c)
      | ((with_reducible show wpList _ _ _ (⟨some 56, _, _, _, _, _⟩ :: _) _ _); refine wpl_gen (RH w _ (setIf true c _)) (HV.out.set c) ?_; intro V7 hV; replace HV := Lib.hid hV; clear hV c0 c1 c2 c3 m1 m2 n1 n2 n3)
      | ((with_reducible show wpList _ _ _ (⟨some 56, _, _, _, _, _⟩ :: _) _ _); refine wpList_load_mid (by rfl) 94 (.tmp 3) (by rfl) (w.heap.size + 1) 0 (by rfl) (bsC L).toList _ (by rw [HL.out]; exact HV.out.2.1.range) Tryd.underlying94 rfl (by rw [HIB.out, HL.out]; simp [rdL_len]) ?_)
      | (go_at_call 60; refine (HR.out _).mono ?_; rintro e V8 ⟨v, rfl, ho, hb⟩; have HO := Lib.hid ho; have HQ := Lib.hid (HV.out.2.2.trans (hb.mono HV.out.2.2.size)); clear ho hb))
    go_ret
    exact ⟨_, rfl, HO.out.base0 HV.out.2.2.size, HQ.out⟩
end Go.Proofs.YtajkccigmiegkaaDoor
