/- instr: Reads and Writes, and the reference's. -/
import Derived.Test.YtajkccigmiegkaaDoorIRegs
set_option linter.unusedVariables false
namespace Go.Proofs.YtajkccigmiegkaaDoor
open Go.RowKit

def setIf (b : Bool) (i : Nat) (l : List Bool) : List Bool := if b then l.set i true else l
theorem setIf_len (b : Bool) (i : Nat) (l : List Bool) : (setIf b i l).length = l.length := by unfold setIf; split <;> simp
abbrev no8 : List Bool := [false, false, false, false, false, false, false, false]
/-- The flags of what an instruction reads. -/
def rdL (ra ub uc : Bool) (a b c : Nat) : List Bool := setIf uc c (setIf ub b (setIf ra a no8))
theorem rdL_len (ra ub uc : Bool) (a b c : Nat) : (rdL ra ub uc a b c).length = 8 := by unfold rdL; rw [setIf_len, setIf_len, setIf_len]; rfl
/-- Reads' blocks: the instruction, the flags, the operation. -/
def RG (w : World) (cs : Array Value) (g : Nat) (l : List Bool) (us : Array Value) (V : World) : Prop := Blk V w.heap.size 26 cs ∧ Blk V g 94 (bsC l) ∧ Blk V (g + 1) 84 us ∧ Below w.heap.size w V ∧ w.heap.size < g
theorem RG.under {w : World} {cs us : Array Value} {g : Nat} {l : List Bool} {V V' : World} (h : RG w cs g l us V) (hb : Below V.heap.size V V') : RG w cs g l us V' := ⟨h.1.under hb, h.2.1.under hb, h.2.2.1.under hb, h.2.2.2.1.trans (hb.mono h.2.2.2.1.size), h.2.2.2.2⟩
theorem RG.bel {w : World} {cs us : Array Value} {g : Nat} {l : List Bool} {V : World} (h : RG w cs g l us V) : Below w.heap.size w V := h.2.2.2.1
theorem RG.set {w : World} {cs us : Array Value} {g : Nat} {l : List Bool} {V : World} (h : RG w cs g l us V) (i : Nat) : RG w cs g (setIf true i l) us (V.setCell ⟨g, i, none⟩ (.bool true)) := by
  have hg := h.2.2.2.2
  refine ⟨h.1.far (by show w.heap.size ≠ g; omega) _, ?_, h.2.2.1.far (by show g + 1 ≠ g; omega) _, h.2.2.2.1.setCell (by show w.heap.size ≤ g; omega) _, hg⟩
  have := h.2.1.set_ i (.bool true)
  rw [bsC_set] at this
  exact this
theorem rg_new {w V : World} {cs us : Array Value} (h : Blk V w.heap.size 26 cs ∧ Below w.heap.size w V) : RG w cs V.heap.size no8 us ((V.alloc (.cells (bsC no8) 94)).alloc (.cells us 84)) := by
  have hl := h.1.lt
  refine ⟨(h.1.alloc _).alloc _, (Blk.new V _ _).alloc _, new2 V _ _ _ _, h.2.trans ((below2 V _ _).mono h.2.size), hl⟩
theorem Env.bl {w V : World} (h : Env w) (hb : Below w.heap.size w V) : Env V := h.below hb
set_option maxHeartbeats 4000000 in
set_option maxRecDepth 100000 in
theorem reads_ok (k a b c : Nat) (U : ByteArray) (f lo hi : Int) (ra ub uc : Bool) (w : World) (hk : k < 27) (ha : a < 8) (hb : b < 8) (hc : c < 8 ∨ uc = false) (C : Int) (hcC : uc = true → C = (c : Int)) (hub : useB f = ub) (huc : useC f = uc) (hra : rdA (k : Int) = ra) (hf : 0 ≤ f ∧ f ≤ 6)
    (hchk : chkZ (k : Int) (a : Int) (b : Int) C = 0) (hE : Env w) (hu : ∀ W, Below w.heap.size w W → W.rangeAt 0 (k * 4) (opL U f lo hi)) :
    Calls Tryd.prog 42 #[inV (k : Int) (a : Int) (b : Int) C] w fun e w' => ∃ v, e = .returned v ∧ OQ encI 1 3 w' w.heap.size v (regsTo (rdL ra ub uc a b c) 8) ∧ Below w.heap.size w w' := by
  have hk2 : (k : Int) < 27 := by omega
  have HU := Lib.hid hu
  have HC : Hid (∀ W, Below w.heap.size w W → Calls Tryd.prog 15 #[inV (k : Int) (a : Int) (b : Int) C] W fun e w' => e = .returned (.int .i64 0) ∧ Below W.heap.size W w') := Lib.hid fun W hb => by rw [← hchk]; exact check_any _ _ _ _ W (hE.below hb)
  have HA : Hid (∀ W, Calls Tryd.prog 59 #[.int .i64 (k : Int)] W fun e w' => e = .returned (.bool ra) ∧ W = w') := Lib.hid fun W => by rw [← hra]; exact (readsA_any k W (by omega) (by omega)).mono fun _ _ h => ⟨h.1, h.2.symm⟩
  have HB : Hid (∀ W, Calls Tryd.prog 48 #[opC U f lo hi] W fun e w' => e = .returned (.bool ub) ∧ Below W.heap.size W w') := Lib.hid fun W => by rw [← hub]; exact usesB_any U f lo hi hf W
  have HD : Hid (∀ W, Calls Tryd.prog 49 #[opC U f lo hi] W fun e w' => e = .returned (.bool uc) ∧ Below W.heap.size W w') := Lib.hid fun W => by rw [← huc]; exact usesC_any U f lo hi hf W
  have hix : ∀ (l : List Bool) (i : Nat) W, l.length = 8 → i < 8 → (Instr.index 94 (.agg (bsC l)) (.int .i64 (i : Int))).run Tryd.prog W = .ok (.bool (l.getD i false)) W := fun l i W hl hi =>
    run_index_bool Tryd.underlying94 Tryd.underlying4 (by kernel_rfl) (bsC l) i hi _ (bsC_get l (by rw [hl]; exact hi)) W
  have HIX := Lib.hid hix
  have HX : Hid (Blk (w.alloc (.cells (inC (k : Int) a b C) 26)) w.heap.size 26 (inC (k : Int) a b C) ∧ Below w.heap.size w (w.alloc (.cells (inC (k : Int) a b C) 26))) := Lib.hid ⟨Blk.new w _ _, below_alloc0 w _⟩
  have ha1 : (a : Int) < 8 := by omega
  have hb1 : (b : Int) < 8 := by omega
  have HCC := Lib.hid hcC
  have hc1 : uc = true → (c : Int) < 8 := fun h => by rcases hc with h' | h'; omega; rw [h] at h'; cases h'
  have HC1 := Lib.hid hc1
  have HIB := Lib.hid (show (Tryd.prog.info? 94).map (·.size) = some 8 by kernel_rfl)
  obtain ⟨L, hL⟩ : ∃ L, L = rdL ra ub uc a b c := ⟨_, rfl⟩
  rw [← hL]
  have h8 : L.length = 8 := by rw [hL]; exact rdL_len _ _ _ _ _ _
  have HL := Lib.hid hL
  have H8 := Lib.hid h8
  clear hL h8 hu hE hchk hub huc hra hix hcC hc hc1 hk
  cases ra <;> cases ub <;> cases uc
  all_goals
    go_enter Tryd.func42, Tryd.ntmps42
    try (obtain rfl : C = (c : Int) := HCC.out rfl)
    try (have hc1 := HC1.out rfl)
    go_wp2_with (first
      | (go_at_call 15; refine (HC.out _ HX.out.2).mono ?_; rintro e V ⟨rfl, hb⟩; replace HX := Lib.hid (And.intro (HX.out.1.under hb) (HX.out.2.trans (hb.mono HX.out.2.size))); clear hb; have c0 := fun o => (HX.out.1.alloc o).cell 0)
      | ((with_reducible show wpList _ _ _ (⟨some 14, _, _, _, _, _⟩ :: _) _ _); refine wpList_load_mid (by rfl) 84 (.tmp 13) (by rfl) 0 (k * 4) (by rfl) (opL U f lo hi) _ (HU.out _ (HX.out.2.trans ((below_alloc0 _ _).mono HX.out.2.size))) Tryd.underlying84 rfl infoOp ?_)
      | ((with_reducible show wpList _ _ _ (⟨some 16, _, _, _, _, _⟩ :: _) _ _); refine wpl_gen (RG w _ V.heap.size no8 #[.string U, .int .i64 f, .int .i64 lo, .int .i64 hi]) (rg_new HX.out) ?_; intro V2 hV; have HV := Lib.hid hV; clear hV c0; have c0 := HV.out.1.cell 0; have c1 := HV.out.1.cell 1; have c2 := HV.out.1.cell 2; have c3 := HV.out.1.cell 3; have d0 := HV.out.2.2.1.cell 0; have d1 := HV.out.2.2.1.cell 1; have d2 := HV.out.2.2.1.cell 2; have d3 := HV.out.2.2.1.cell 3; have m1 := (HV.out.2.1.cell a).trans (bsC_get _ (by simp [setIf]; omega)); have m2 := (HV.out.2.1.cell b).trans (bsC_get _ (by simp [setIf]; omega)); have n1 := HV.out.2.1.frozen a; have n2 := HV.out.2.1.frozen b; have n3 := HV.out.2.1.frozen c; (try have m3 := (HV.out.2.1.cell c).trans (bsC_get _ (by simp [setIf]; omega))))
      | (go_at_call 59; refine (HA.out _).mono ?_; rintro e w' ⟨rfl, rfl⟩)
      | ((with_reducible show wpList _ _ _ (⟨some 21, _, _, _, _, _⟩ :: _) _ _); refine wpl_gen (RG w _ V.heap.size (setIf true a _) _) (HV.out.set a) ?_; intro V3 hV; replace HV := Lib.hid hV; clear hV c0 c1 c2 c3 d0 d1 d2 d3 m1 m2 n1 n2 n3; have c0 := HV.out.1.cell 0; have c1 := HV.out.1.cell 1; have c2 := HV.out.1.cell 2; have c3 := HV.out.1.cell 3; have d0 := HV.out.2.2.1.cell 0; have d1 := HV.out.2.2.1.cell 1; have d2 := HV.out.2.2.1.cell 2; have d3 := HV.out.2.2.1.cell 3; have m1 := (HV.out.2.1.cell a).trans (bsC_get _ (by simp [setIf]; omega)); have m2 := (HV.out.2.1.cell b).trans (bsC_get _ (by simp [setIf]; omega)); have n1 := HV.out.2.1.frozen a; have n2 := HV.out.2.1.frozen b; have n3 := HV.out.2.1.frozen c; (try have m3 := (HV.out.2.1.cell c).trans (bsC_get _ (by simp [setIf]; omega))))
      | (go_at_call 48; refine (HB.out _).mono ?_; rintro e V4 ⟨rfl, hb⟩; replace HV := Lib.hid (HV.out.under hb); clear hb c0 c1 c2 c3 d0 d1 d2 d3 m1 m2 n1 n2 n3; have c0 := HV.out.1.cell 0; have c1 := HV.out.1.cell 1; have c2 := HV.out.1.cell 2; have c3 := HV.out.1.cell 3; have d0 := HV.out.2.2.1.cell 0; have d1 := HV.out.2.2.1.cell 1; have d2 := HV.out.2.2.1.cell 2; have d3 := HV.out.2.2.1.cell 3; have m1 := (HV.out.2.1.cell a).trans (bsC_get _ (by simp [setIf]; omega)); have m2 := (HV.out.2.1.cell b).trans (bsC_get _ (by simp [setIf]; omega)); have n1 := HV.out.2.1.frozen a; have n2 := HV.out.2.1.frozen b; have n3 := HV.out.2.1.frozen c; (try have m3 := (HV.out.2.1.cell c).trans (bsC_get _ (by simp [setIf]; omega))))
      | ((with_reducible show wpList _ _ _ (⟨some 26, _, _, _, _, _⟩ :: _) _ _); refine wpl_gen (RG w _ V.heap.size (setIf true b _) _) (HV.out.set b) ?_; intro V5 hV; replace HV := Lib.hid hV; clear hV c0 c1 c2 c3 d0 d1 d2 d3 m1 m2 n1 n2 n3; have c0 := HV.out.1.cell 0; have c1 := HV.out.1.cell 1; have c2 := HV.out.1.cell 2; have c3 := HV.out.1.cell 3; have d0 := HV.out.2.2.1.cell 0; have d1 := HV.out.2.2.1.cell 1; have d2 := HV.out.2.2.1.cell 2; have d3 := HV.out.2.2.1.cell 3; have m1 := (HV.out.2.1.cell a).trans (bsC_get _ (by simp [setIf]; omega)); have m2 := (HV.out.2.1.cell b).trans (bsC_get _ (by simp [setIf]; omega)); have n1 := HV.out.2.1.frozen a; have n2 := HV.out.2.1.frozen b; have n3 := HV.out.2.1.frozen c; (try have m3 := (HV.out.2.1.cell c).trans (bsC_get _ (by simp [setIf]; omega))))
      | (go_at_call 49; refine (HD.out _).mono ?_; rintro e V6 ⟨rfl, hb⟩; replace HV := Lib.hid (HV.out.under hb); clear hb c0 c1 c2 c3 d0 d1 d2 d3 m1 m2 n1 n2 n3; have c0 := HV.out.1.cell 0; have c1 := HV.out.1.cell 1; have c2 := HV.out.1.cell 2; have c3 := HV.out.1.cell 3; have d0 := HV.out.2.2.1.cell 0; have d1 := HV.out.2.2.1.cell 1; have d2 := HV.out.2.2.1.cell 2; have d3 := HV.out.2.2.1.cell 3; have m1 := (HV.out.2.1.cell a).trans (bsC_get _ (by simp [setIf]; omega)); have m2 := (HV.out.2.1.cell b).trans (bsC_get _ (by simp [setIf]; omega)); have n1 := HV.out.2.1.frozen a; have n2 := HV.out.2.1.frozen b; have n3 := HV.out.2.1.frozen c; (try have m3 := (HV.out.2.1.cell c).trans (bsC_get _ (by simp [setIf]; omega))))
      | ((with_reducible show wpList _ _ _ (⟨some 31, _, _, _, _, _⟩ :: _) _ _); refine wpl_gen (RG w _ V.heap.size (setIf true c _) _) (HV.out.set c) ?_; intro V7 hV; replace HV := Lib.hid hV; clear hV c0 c1 c2 c3 d0 d1 d2 d3 m1 m2 n1 n2 n3)
      | ((with_reducible show wpList _ _ _ (⟨some 31, _, _, _, _, _⟩ :: _) _ _); refine wpList_load_mid (by rfl) 94 (.tmp 3) (by rfl) V.heap.size 0 (by rfl) (bsC L).toList _ (by rw [HL.out]; exact HV.out.2.1.range) Tryd.underlying94 rfl (by rw [HIB.out, HL.out]; simp [rdL_len]) ?_))
    have HG := Lib.hid HV.out.bel
    clear HV HX HL HA HB HD HU HC HCC HC1 HIB
    try clear c0 c1 c2 c3 d0 d1 d2 d3 m1 m2 n1 n2 n3
    go_loopw [5, 32] (fun a i wr => ∃ k : Nat, k ≤ 8 ∧ i = .int .i64 (k : Int) ∧ OQ encI 1 3 wr w.heap.size a (regsTo L k) ∧ Below w.heap.size w wr) (fun _ i _ => 8 - (intOf i).toNat)
    case atStart => exact ⟨0, by omega, rfl, OQ.nil _ _, HG.out⟩
    case round =>
      obtain ⟨j, hj, rfl, hR, hW⟩ := hrel
      have HR := Lib.hid hR
      have HW := Lib.hid hW
      clear hR hW HG
      by_cases hlt : j < 8
      · have h1 : (j : Int) < 8 := by omega
        have hix := fun W => HIX.out L j W H8.out hlt
        obtain ⟨b1, hb1⟩ : ∃ b1, L.getD j false = b1 := ⟨_, rfl⟩
        rw [hb1] at hix
        have HB1 := Lib.hid hb1
        clear hb1
        cases b1 with
        | false =>
          go_wp2
          go_roundw
          case rel =>
            refine ⟨j + 1, by omega, by go_num, ?_, HW.out⟩
            unfold regsTo
            rw [HB1.out]
            simpa using HR.out
          case measure => simp [intOf] <;> omega
        | true =>
          go_wp2_with (at_builtin; refine wpList_pushQ encI_ok intT_ok rfl (.tmp 37) (.tmp 39) rfl w.heap.size _ (regsTo L j) rfl (j : Int) _ rfl HR.out rfl ?_ ?_ ?_ ?_; (focus (have := regsTo_len L j; unfold maxLen; omega)); (focus (have := regsTo_len L j; omega)); (focus (exact HW.out.size)); intro v3 W3 ho3 hg3; have HO := Lib.hid ho3; have HG := Lib.hid (hg3.below (B := w.heap.size) HW.out.size (fun j hj => (HR.out.lt j hj).1)); clear ho3 hg3)
          go_roundw
          case rel =>
            refine ⟨j + 1, by omega, by go_num, ?_, HW.out.trans HG.out⟩
            unfold regsTo
            rw [HB1.out]
            exact HO.out
          case measure => simp [intOf] <;> omega
      · obtain rfl : j = 8 := by omega
        go_wp2
        go_ret
        exact ⟨_, rfl, HR.out, HW.out⟩
end Go.Proofs.YtajkccigmiegkaaDoor
