/- instr: the law InstrRegisters, walked. -/
import Derived.Test.YtajkccigmiegkaaDoorIWrites
import Derived.Test.YtajkccigmiegkaaDoorILaws
set_option linter.unusedVariables false
namespace Go.Proofs.YtajkccigmiegkaaDoor
open Go.RowKit

/-- Same, of two lists that the call owns. -/
theorem same_own {V : World} {b1 b2 : Nat} {v1 v2 : Value} {l : List Int} (h1 : OQ encI 1 3 V b1 v1 l) (h2 : OQ encI 1 3 V b2 v2 l) (hl : l.length ≤ 1000) :
    Calls Tryd.prog 41 #[v1, v2] V fun e w' => e = .returned (.bool true) ∧ Below V.heap.size V w' := by
  obtain ⟨A, c, rfl, hr, _⟩ := h1.form encI_ok
  obtain ⟨B, d, rfl, hs, _⟩ := h2.form encI_ok
  exact same_any A B l c d V hr hs hl
set_option maxHeartbeats 1000000 in
set_option maxRecDepth 100000 in
theorem regs_law (o a b c : Int) (l m : List Int) (w : World) (hl : l.length ≤ 1000) (hm : m.length ≤ 1000)
    (hK : ∀ W, Below w.heap.size w W → Calls Tryd.prog 13 #[] W fun e w' => e = .returned (.bool true) ∧ Below W.heap.size W w')
    (h1 : ∀ W, Below w.heap.size w W → Calls Tryd.prog 42 #[inV o a b c] W fun e w' => ∃ v, e = .returned v ∧ OQ encI 1 3 w' W.heap.size v l ∧ Below W.heap.size W w')
    (h2 : ∀ W, Calls Tryd.prog 43 #[inV o a b c] W fun e w' => ∃ v, e = .returned v ∧ OQ encI 1 3 w' W.heap.size v l ∧ Below W.heap.size W w')
    (h3 : ∀ W, Below w.heap.size w W → Calls Tryd.prog 44 #[inV o a b c] W fun e w' => ∃ v, e = .returned v ∧ OQ encI 1 3 w' W.heap.size v m ∧ Below W.heap.size W w')
    (h4 : ∀ W, Calls Tryd.prog 45 #[inV o a b c] W fun e w' => ∃ v, e = .returned v ∧ OQ encI 1 3 w' W.heap.size v m ∧ Below W.heap.size W w') :
    Calls Tryd.prog 12 #[inV o a b c] w fun e w' => e = .returned (.bool true) ∧ Below w.heap.size w w' := by
  have HK := Lib.hid hK
  have H1 := Lib.hid h1
  have H2 := Lib.hid h2
  have H3 := Lib.hid h3
  have H4 := Lib.hid h4
  have HT : Hid (∀ W, Calls Tryd.prog 14 #[inV o a b c] W fun e w' => e = .returned (inV o a b c) ∧ Below W.heap.size W w') := Lib.hid fun W => to_any o a b c W
  have HX := Lib.hid (xr_new w o a b c)
  have HLL := Lib.hid hl
  have HMM := Lib.hid hm
  clear hK h1 h2 h3 h4 hl hm
  go_enter Tryd.func12, Tryd.ntmps12
  go_upto_region 1 with fail
  refine cwp_gen (XR w o a b c) HX.out ?_
  intro V hV
  clear HX
  have f0 : ∀ W, XR w o a b c W → W.cell? ⟨w.heap.size, 0, none⟩ = some (.int .i64 o) := fun W q => q.1.cell 0
  have f1 : ∀ W, XR w o a b c W → W.cell? ⟨w.heap.size, 1, none⟩ = some (.int .i64 a) := fun W q => q.1.cell 1
  have f2 : ∀ W, XR w o a b c W → W.cell? ⟨w.heap.size, 2, none⟩ = some (.int .i64 b) := fun W q => q.1.cell 2
  have f3 : ∀ W, XR w o a b c W → W.cell? ⟨w.heap.size, 3, none⟩ = some (.int .i64 c) := fun W q => q.1.cell 3
  go_region_held3 (XR w o a b c) (first | assumption | exact XR.drew (by assumption)) ((first
    | (go_at_call 13; refine (HK.out _ (XR.bel (by assumption))).mono ?_; rintro e W1 ⟨rfl, hb⟩; have hS1 := XR.under (by assumption) hb; clear hb)
    | (go_at_call 14; refine (HT.out _).mono ?_; rintro e W1 ⟨rfl, hb⟩; have hS1 := XR.under (by assumption) hb; clear hb)
    | (go_at_call 42; refine (H1.out _ (XR.bel (by assumption))).mono ?_; rintro e W3 ⟨v1, rfl, ho, hb⟩; have hS1 := XR.under (by assumption) hb; have HO1 := Lib.hid ho; clear ho hb)
    | (go_at_call 43; refine (H2.out _).mono ?_; rintro e W4 ⟨v2, rfl, ho, hb⟩; have hS1 := XR.under (by assumption) hb; have HP1 := Lib.hid (OQ.under (by exact HO1.out) hb); have HO2 := Lib.hid ho; clear ho hb)
    | (go_at_call 44; refine (H3.out _ (XR.bel (by assumption))).mono ?_; rintro e W3 ⟨v3, rfl, ho, hb⟩; have hS1 := XR.under (by assumption) hb; have HO3 := Lib.hid ho; clear ho hb)
    | (go_at_call 45; refine (H4.out _).mono ?_; rintro e W4 ⟨v4, rfl, ho, hb⟩; have hS1 := XR.under (by assumption) hb; have HP3 := Lib.hid (OQ.under (by exact HO3.out) hb); have HO4 := Lib.hid ho; clear ho hb)
    | (go_at_call 41; refine (same_own (by exact HP3.out) (by exact HO4.out) HMM.out).mono ?_; rintro e W5 ⟨rfl, hb⟩; have hS1 := XR.under (by assumption) hb; clear hb)
    | (go_at_call 41; refine (same_own (by exact HP1.out) (by exact HO2.out) HLL.out).mono ?_; rintro e W5 ⟨rfl, hb⟩; have hS1 := XR.under (by assumption) hb; clear hb)))
  all_goals
    go_wp2
    go_ret
    exact ⟨rfl, XR.bel ‹XR w o a b c _›⟩
theorem len_one (x : Bool) (a : Int) : (if x then [a] else []).length ≤ 1000 := by cases x <;> simp
theorem chk_c {op a b c : Int} (h : chkZ op a b c = 0) (h3 : formN op.toNat = 3) : 0 ≤ c ∧ c ≤ 7 := by
  have h00 := (chk_ok h).1
  unfold chkZ at h
  rw [if_pos h00, h3] at h
  unfold chkB at h
  split at h
  · cases h
  · split at h
    · cases h
    · rename_i h2
      simp [isReg, useC] at h2
      omega
theorem form_ra : ∀ k : Nat, k < 27 → rdA (k : Int) = true → useC (formN k) = false := by decide
theorem rdA_false {op : Int} (h : rdA op = false) : (op == 3) = false ∧ (op == 18) = false ∧ (op == 20) = false ∧ (op == 22) = false ∧ (op == 23) = false ∧ (op == 25) = false := by
  unfold rdA at h
  simpa [Bool.or_eq_false_iff, and_assoc] using h
theorem rdA_true {op : Int} (h : rdA op = true) : op = 3 ∨ op = 18 ∨ op = 20 ∨ op = 22 ∨ op = 23 ∨ op = 25 := by
  unfold rdA at h
  simp at h
  omega
theorem useB_dec (f : Int) (hf : 0 ≤ f ∧ f ≤ 6) : decide (f = 2 ∨ f = 3 ∨ f = 5) = useB f := by
  obtain rfl | rfl | rfl | rfl | rfl | rfl | rfl : f = 0 ∨ f = 1 ∨ f = 2 ∨ f = 3 ∨ f = 4 ∨ f = 5 ∨ f = 6 := by omega
  all_goals rfl
set_option maxRecDepth 100000 in
theorem instrRegisters_walk (o a b c : Int) (w : World) (hE : Env w) :
    Calls Tryd.prog 12 #[inV o a b c] w fun e w' => e = .returned (.bool true) ∧ Below w.heap.size w w' := by
  by_cases hk : chkZ o a b c = 0
  · obtain ⟨⟨o0, o1⟩, ⟨a0, a1⟩, ⟨b0, b1⟩, _⟩ := chk_ok hk
    obtain ⟨k, rfl⟩ := Int.eq_ofNat_of_zero_le o0
    obtain ⟨x, rfl⟩ := Int.eq_ofNat_of_zero_le a0
    obtain ⟨y, rfl⟩ := Int.eq_ofNat_of_zero_le b0
    have hk27 : k < 27 := by omega
    have hf := form_le k hk27
    have hfZ : formZ (k : Int) = formN k := if_pos ⟨o0, o1⟩
    have hfE : formE (k : Int) = 0 := if_pos ⟨o0, o1⟩
    have hcc : useC (formN k) = true → c = (c.toNat : Int) ∧ c.toNat < 8 := fun h => by
      have := chk_c hk (by unfold useC at h; simpa using h)
      omega
    have hc8 : c.toNat < 8 ∨ useC (formN k) = false := by
      cases h : useC (formN k)
      · exact .inr rfl
      · exact .inl (hcc h).2
    refine regs_law k x y c (regsTo (rdL (rdA k) (useB (formN k)) (useC (formN k)) x y c.toNat) 8) (if wrA k then [(x : Int)] else []) w (Nat.le_trans (regsTo_len _ 8) (by omega)) (len_one _ _) (fun W hb => known_any W (hE.below hb))
      (fun W hb => reads_ok k x y c.toNat _ (formN k) (lowN k) (highN k) _ _ _ W hk27 (by omega) (by omega) hc8 c (fun h => (hcc h).1) rfl rfl rfl hf hk (hE.below hb) (fun V hV => ((hE.below hb).below hV).row hk27))
      (fun W => rreads_ok k x y c.toNat (formN k) _ _ _ W (by omega) (by omega) hc8 c (fun h => (hcc h).1) (useB_dec _ hf) rfl ?_ hf (fun V => by rw [← hfZ, ← hfE]; exact (rform_any k V).mono fun _ _ h => ⟨h.1, h.2.symm⟩) hk)
      (fun W hb => writes_ok k x y c W (hE.below hb) hk _ rfl) (fun W => rwrites_ok k x y c W (by omega) hk _ rfl)
    cases hr : rdA (k : Int)
    · exact .inr ⟨rfl, rdA_false hr⟩
    · exact .inl ⟨rfl, form_ra k hk27 hr, rdA_true hr⟩
  · exact regs_law o a b c [] [] w (by simp) (by simp) (fun W hb => known_any W (hE.below hb)) (fun W hb => reads_bad o a b c W (hE.below hb) hk)
      (fun W => rreads_bad o a b c _ _ W hk (fun V => (rform_any o V).mono fun _ _ h => ⟨h.1, h.2.symm⟩)) (fun W hb => writes_bad o a b c W (hE.below hb) hk) (fun W => rwrites_bad o a b c W hk)
end Go.Proofs.YtajkccigmiegkaaDoor
