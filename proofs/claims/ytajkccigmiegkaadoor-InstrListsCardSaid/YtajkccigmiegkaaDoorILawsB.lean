/- instr: the laws InstrEncodes and InstrDecodes, walked. -/
import Derived.Test.YtajkccigmiegkaaDoorIDecB
import Derived.Test.YtajkccigmiegkaaDoorILaws
set_option linter.unusedVariables false
namespace Go.Proofs.YtajkccigmiegkaaDoor
open Go.RowKit

theorem lims2 : ∀ k, k < 27 → (4 ≤ formN k → (lowN k = -32768 ∧ highN k = 32767) ∨ (lowN k = 0 ∧ highN k ≤ 65535)) := by decide
theorem chk_num {op a b c : Int} (h : chkZ op a b c = 0) : (limE op = 0 ∧ lowZ op < 0 → -32768 ≤ c ∧ c ≤ 32767) ∧ (¬ (limE op = 0 ∧ lowZ op < 0) → 0 ≤ c ∧ c ≤ 65535) := by
  have h00 := (chk_ok h).1
  unfold limE lowZ
  unfold chkZ at h
  rw [if_pos h00] at h
  rw [if_pos h00, if_pos h00]
  have hf := form_le op.toNat (by omega)
  have hl := lims2 op.toNat (by omega)
  have hl3 := lows op.toNat (by omega)
  generalize formN op.toNat = f at *
  generalize lowN op.toNat = lo at *
  generalize highN op.toNat = hi at *
  unfold chkB at h
  split at h
  · cases h
  · rename_i h1
    split at h
    · cases h
    · rename_i h2
      split at h
      · cases h
      · rename_i h3
        simp only [isReg, Bool.or_eq_true, not_or, Bool.not_eq_true', Bool.and_eq_false_iff, decide_eq_false_iff_not] at h1 h2 h3
        obtain rfl | rfl | rfl | rfl | rfl | rfl | rfl : f = 0 ∨ f = 1 ∨ f = 2 ∨ f = 3 ∨ f = 4 ∨ f = 5 ∨ f = 6 := by omega
        all_goals
          simp [useA, useB, useC, useN] at h1 h2 h3 hl hl3 ⊢
          omega
/-- What is encoded decodes to itself. -/
theorem dec_enc {o a b c : Int} (h : chkZ o a b c = 0) : ∃ x0 x1 x2 x3 : Nat, x0 < 256 ∧ x1 < 256 ∧ x2 < 256 ∧ x3 < 256 ∧ (x0 : Int) = o ∧ (x1 : Int) = 16 * a + b ∧ (x2 : Int) = c % 256 ∧ (x3 : Int) = c / 256 % 256 ∧ decC x0 x1 x2 x3 = c := by
  obtain ⟨⟨o0, o1⟩, ⟨a0, a1⟩, ⟨b0, b1⟩, c0, c1⟩ := chk_ok h
  refine ⟨o.toNat, (16 * a + b).toNat, (c % 256).toNat, (c / 256 % 256).toNat, by omega, by omega, by omega, by omega, by omega, by omega, by omega, by omega, ?_⟩
  rw [Int.toNat_of_nonneg o0, Int.toNat_of_nonneg (by omega), Int.toNat_of_nonneg (by omega), Int.toNat_of_nonneg (by omega)]
  unfold decC numZ
  have hr := chk_num h
  by_cases hn : limE o = 0 ∧ lowZ o < 0
  · have := hr.1 hn
    rw [if_pos hn]
    split <;> omega
  · have := hr.2 hn
    rw [if_neg hn]
    omega
/-- What decodes is encoded to itself. -/
theorem enc_dec {x0 x1 x2 x3 : Nat} (b0 : x0 < 256) (b1 : x1 < 256) (b2 : x2 < 256) (b3 : x3 < 256) : decC x0 x1 x2 x3 % 256 = x2 ∧ decC x0 x1 x2 x3 / 256 % 256 = x3 ∧ 16 * ((x1 : Int) / 16) + (x1 : Int) % 16 = x1 := by
  unfold decC numZ
  refine ⟨?_, ?_, by omega⟩
  · split
    · split <;> omega
    · omega
  · split
    · split <;> omega
    · omega

theorem eq_in (o a b c o' a' b' c' : Int) (W : World) : (binOp .eql 23 (inV o a b c) (inV o' a' b' c')).run Tryd.prog W = .ok (.bool (decide (o = o' ∧ a = a' ∧ b = b' ∧ c = c'))) W := by
  go_simp
  by_cases h1 : o = o' <;> by_cases h2 : a = a' <;> by_cases h3 : b = b' <;> by_cases h4 : c = c' <;> simp [h1, h2, h3, h4]
theorem ne_by (a b c d : Int) (W : World) : (binOp .neq 43 (byV a b c d) (byV a b c d)).run Tryd.prog W = .ok (.bool false) W := by
  have h := eq_by a b c d a b c d W
  simp only [binOp] at h ⊢
  simp only [Op.equal] at h ⊢
  cases hr : (Op.equalIn Op.maxDepth 43 (byV a b c d) (byV a b c d)).run Tryd.prog W with
  | ok v W1 => simp [hr] at h ⊢; exact ⟨by simp [h.1], h.2⟩
  | halt e W1 => simp [hr] at h
theorem enc_by (o a b c : Int) : ∃ e0 e1 e2 e3, encV o a b c = byV e0 e1 e2 e3 := by
  unfold encV
  split
  · exact ⟨_, _, _, _, rfl⟩
  · exact ⟨_, _, _, _, rfl⟩
/-- The argument, and a second block. -/
def X2 (w : World) (o a b c : Int) (g : Nat) (t : TypeId) (cs : Array Value) (V : World) : Prop := XR w o a b c V ∧ Blk V g t cs
theorem X2.under {w V V' : World} {o a b c : Int} {g : Nat} {t : TypeId} {cs : Array Value} (h : X2 w o a b c g t cs V) (hb : Below V.heap.size V V') : X2 w o a b c g t cs V' := ⟨h.1.under hb, h.2.under hb⟩
theorem X2.bel {w V : World} {o a b c : Int} {g : Nat} {t : TypeId} {cs : Array Value} (h : X2 w o a b c g t cs V) : Below w.heap.size w V := h.1.bel
theorem X2.drew {w V : World} {o a b c : Int} {g : Nat} {t : TypeId} {cs : Array Value} (h : X2 w o a b c g t cs V) : X2 w o a b c g t cs V.drew := ⟨h.1.drew, h.2.drew⟩
theorem x2_new {w V : World} {o a b c : Int} (h : XR w o a b c V) (t : TypeId) (cs : Array Value) : X2 w o a b c V.heap.size t cs (V.alloc (.cells cs t)) := ⟨h.under (below_alloc0 V _), Blk.new V t cs⟩
def X3 (w : World) (o a b c : Int) (g : Nat) (t : TypeId) (cs : Array Value) (f : Nat) (u : TypeId) (ds : Array Value) (V : World) : Prop := X2 w o a b c g t cs V ∧ Blk V f u ds
theorem X3.under {w V V' : World} {o a b c : Int} {g f : Nat} {t u : TypeId} {cs ds : Array Value} (h : X3 w o a b c g t cs f u ds V) (hb : Below V.heap.size V V') : X3 w o a b c g t cs f u ds V' := ⟨h.1.under hb, h.2.under hb⟩
theorem x3_new {w V : World} {o a b c : Int} {g : Nat} {t : TypeId} {cs : Array Value} (h : X2 w o a b c g t cs V) (u : TypeId) (ds : Array Value) : X3 w o a b c g t cs V.heap.size u ds (V.alloc (.cells ds u)) := ⟨h.under (below_alloc0 V _), Blk.new V u ds⟩
set_option maxHeartbeats 2000000 in
set_option maxRecDepth 100000 in
theorem instrEncodes_walk (o a b c : Int) (w : World) (hE : Env w) :
    Calls Tryd.prog 5 #[inV o a b c] w fun e w' => e = .returned (.bool true) ∧ Below w.heap.size w w' := by
  have HK : Hid (∀ W, Below w.heap.size w W → Calls Tryd.prog 13 #[] W fun e w' => e = .returned (.bool true) ∧ Below W.heap.size W w') := Lib.hid fun W hb => known_any W (hE.below hb)
  have HT : Hid (∀ W, Calls Tryd.prog 14 #[inV o a b c] W fun e w' => e = .returned (inV o a b c) ∧ Below W.heap.size W w') := Lib.hid fun W => to_any o a b c W
  have HO : Hid (∀ W, Calls Tryd.prog 28 #[inV o a b c] W fun e w' => e = .returned (inV o a b c) ∧ Below W.heap.size W w') := Lib.hid fun W => of_any o a b c W
  obtain ⟨e0, e1, e2, e3, he⟩ := enc_by o a b c
  obtain ⟨z, hz⟩ : ∃ z, chkZ o a b c = z := ⟨_, rfl⟩
  have HC : Hid (∀ W, Below w.heap.size w W → Calls Tryd.prog 25 #[inV o a b c] W fun e w' => e = .returned (.tuple #[byV e0 e1 e2 e3, .int .i64 z]) ∧ Below W.heap.size W w') := Lib.hid fun W hb => by rw [← hz, ← he]; exact encode_any o a b c W (hE.below hb)
  have HR : Hid (∀ W, Calls Tryd.prog 26 #[inV o a b c] W fun e w' => e = .returned (.tuple #[byV e0 e1 e2 e3, .int .i64 z]) ∧ Below W.heap.size W w') := Lib.hid fun W => by rw [← hz, ← he]; exact rencode_any o a b c W
  have HX := Lib.hid (xr_new w o a b c)
  have hq : ∀ W, (binOp .neq 43 (byV e0 e1 e2 e3) (byV e0 e1 e2 e3)).run Tryd.prog W = .ok (.bool false) W := fun W => ne_by e0 e1 e2 e3 W
  have hq2 : ∀ W, (binOp .eql 23 (inV o a b c) (inV o a b c)).run Tryd.prog W = .ok (.bool true) W := fun W => by rw [eq_in]; simp
  by_cases hz0 : z = 0
  · subst hz0
    obtain ⟨x0, x1, x2, x3, b0, b1, b2, b3, y0, y1, y2, y3, hd⟩ := dec_enc hz
    have hv : encV o a b c = byV x0 x1 x2 x3 := by unfold encV; rw [if_pos hz, y0, y1, y2, y3]
    have hdv : decV x0 x1 x2 x3 = inV o a b c ∧ decE x0 x1 x2 x3 = 0 := by
      have h1 : (x1 : Int) / 16 = a := by have := (chk_ok hz).2.2.1; omega
      have h2 : (x1 : Int) % 16 = b := by have := (chk_ok hz).2.2.1; omega
      unfold decV decE
      rw [hd, h1, h2, y0, if_pos hz, if_pos hz]
      exact ⟨rfl, rfl⟩
    have HD : Hid (∀ W, Below w.heap.size w W → Calls Tryd.prog 27 #[byV e0 e1 e2 e3] W fun e w' => e = .returned (.tuple #[inV o a b c, .int .i64 0]) ∧ Below W.heap.size W w') := Lib.hid fun W hb => by
      have := decode_any x0 x1 x2 x3 W (hE.below hb) b0 b1 b2 b3
      rw [hdv.1, hdv.2, ← hv, he] at this
      exact this
    clear hE he hz b0 b1 b2 b3 y0 y1 y2 y3 hd hv hdv
    go_enter Tryd.func5, Tryd.ntmps5
    go_upto_region 10 with (first
      | (go_at_call 13; refine (HK.out _ HX.out.bel).mono ?_; rintro e V ⟨rfl, hb⟩; replace HX := Lib.hid (HX.out.under hb); clear hb; have c0 := HX.out.1.cell 0; have c1 := HX.out.1.cell 1; have c2 := HX.out.1.cell 2; have c3 := HX.out.1.cell 3)
      | (go_at_call 14; refine (HT.out _).mono ?_; rintro e V1 ⟨rfl, hb⟩; replace HX := Lib.hid (HX.out.under hb); clear hb c0 c1 c2 c3)
      | (go_at_call 25; refine (HC.out _ HX.out.bel).mono ?_; rintro e V2 ⟨rfl, hb⟩; replace HX := Lib.hid (HX.out.under hb); clear hb; have c0 := HX.out.1.cell 0; have c1 := HX.out.1.cell 1; have c2 := HX.out.1.cell 2; have c3 := HX.out.1.cell 3)
      | ((with_reducible show wpList _ _ _ (⟨some 18, _, _, _, _, _⟩ :: _) _ _); refine wpl_gen (X2 w o a b c V2.heap.size 43 (byC e0 e1 e2 e3)) (x2_new HX.out _ _) ?_; intro W1 hW; have HY := Lib.hid hW; clear hW c0 c1 c2 c3; have c0 := HY.out.1.1.cell 0; have c1 := HY.out.1.1.cell 1; have c2 := HY.out.1.1.cell 2; have c3 := HY.out.1.1.cell 3)
      | (go_at_call 26; refine (HR.out _).mono ?_; rintro e V3 ⟨rfl, hb⟩; replace HY := Lib.hid (HY.out.under hb); clear hb c0 c1 c2 c3)
      | ((with_reducible show wpList _ _ _ (⟨some 22, _, _, _, _, _⟩ :: _) _ _); refine wpl_gen (X3 w o a b c V2.heap.size 43 (byC e0 e1 e2 e3) V3.heap.size 43 (byC e0 e1 e2 e3)) (x3_new HY.out _ _) ?_; intro W2 hW; have HZ := Lib.hid hW; clear hW; have d0 := HZ.out.1.2.cell 0; have d1 := HZ.out.1.2.cell 1; have d2 := HZ.out.1.2.cell 2; have d3 := HZ.out.1.2.cell 3; have k0 := HZ.out.2.cell 0; have k1 := HZ.out.2.cell 1; have k2 := HZ.out.2.cell 2; have k3 := HZ.out.2.cell 3)
      | (go_at_call 27; refine (HD.out _ HZ.out.1.bel).mono ?_; rintro e V4 ⟨rfl, hb⟩; replace HZ := Lib.hid (HZ.out.under hb); clear hb d0 d1 d2 d3 k0 k1 k2 k3))
    refine cwp_gen (X2 w o a b c V4.heap.size 26 (inC o a b c)) (x2_new HZ.out.1.1 _ _) ?_
    intro V hV
    obtain ⟨g, hg⟩ : ∃ g, g = V4.heap.size := ⟨_, rfl⟩
    rw [← hg] at hV
    rw [← hg]
    clear HX HY HZ hg
    have f0 : ∀ W, X2 w o a b c g 26 (inC o a b c) W → W.cell? ⟨w.heap.size, 0, none⟩ = some (.int .i64 o) := fun W q => q.1.1.cell 0
    have f1 : ∀ W, X2 w o a b c g 26 (inC o a b c) W → W.cell? ⟨w.heap.size, 1, none⟩ = some (.int .i64 a) := fun W q => q.1.1.cell 1
    have f2 : ∀ W, X2 w o a b c g 26 (inC o a b c) W → W.cell? ⟨w.heap.size, 2, none⟩ = some (.int .i64 b) := fun W q => q.1.1.cell 2
    have f3 : ∀ W, X2 w o a b c g 26 (inC o a b c) W → W.cell? ⟨w.heap.size, 3, none⟩ = some (.int .i64 c) := fun W q => q.1.1.cell 3
    have k0 : ∀ W, X2 w o a b c g 26 (inC o a b c) W → W.cell? ⟨g, 0, none⟩ = some (.int .i64 o) := fun W q => q.2.cell 0
    have k1 : ∀ W, X2 w o a b c g 26 (inC o a b c) W → W.cell? ⟨g, 1, none⟩ = some (.int .i64 a) := fun W q => q.2.cell 1
    have k2 : ∀ W, X2 w o a b c g 26 (inC o a b c) W → W.cell? ⟨g, 2, none⟩ = some (.int .i64 b) := fun W q => q.2.cell 2
    have k3 : ∀ W, X2 w o a b c g 26 (inC o a b c) W → W.cell? ⟨g, 3, none⟩ = some (.int .i64 c) := fun W q => q.2.cell 3
    go_region_held3 (X2 w o a b c g 26 (inC o a b c)) (first | assumption | exact X2.drew (by assumption)) ((first
      | (go_at_call 28; refine (HO.out _).mono ?_; rintro e W1 ⟨rfl, hb⟩; have hS1 := X2.under (by assumption) hb; clear hb)))
    all_goals
      go_wp2
      go_ret
      exact ⟨rfl, X2.bel ‹X2 w o a b c g _ _ _›⟩
  · have hz1 : (z == 0) = false := by simp [hz0]
    have hz2 : (z != 0) = true := by simp [hz0]
    clear hE he hz hz0
    go_enter Tryd.func5, Tryd.ntmps5
    go_wp2_with (first
      | (go_at_call 13; refine (HK.out _ HX.out.bel).mono ?_; rintro e V ⟨rfl, hb⟩; replace HX := Lib.hid (HX.out.under hb); clear hb; have c0 := HX.out.1.cell 0; have c1 := HX.out.1.cell 1; have c2 := HX.out.1.cell 2; have c3 := HX.out.1.cell 3)
      | (go_at_call 14; refine (HT.out _).mono ?_; rintro e V1 ⟨rfl, hb⟩; replace HX := Lib.hid (HX.out.under hb); clear hb c0 c1 c2 c3)
      | (go_at_call 25; refine (HC.out _ HX.out.bel).mono ?_; rintro e V2 ⟨rfl, hb⟩; replace HX := Lib.hid (HX.out.under hb); clear hb; have c0 := HX.out.1.cell 0; have c1 := HX.out.1.cell 1; have c2 := HX.out.1.cell 2; have c3 := HX.out.1.cell 3)
      | ((with_reducible show wpList _ _ _ (⟨some 18, _, _, _, _, _⟩ :: _) _ _); refine wpl_gen (X2 w o a b c V2.heap.size 43 (byC e0 e1 e2 e3)) (x2_new HX.out _ _) ?_; intro W1 hW; have HY := Lib.hid hW; clear hW c0 c1 c2 c3; have c0 := HY.out.1.1.cell 0; have c1 := HY.out.1.1.cell 1; have c2 := HY.out.1.1.cell 2; have c3 := HY.out.1.1.cell 3)
      | (go_at_call 26; refine (HR.out _).mono ?_; rintro e V3 ⟨rfl, hb⟩; replace HY := Lib.hid (HY.out.under hb); clear hb c0 c1 c2 c3)
      | ((with_reducible show wpList _ _ _ (⟨some 22, _, _, _, _, _⟩ :: _) _ _); refine wpl_gen (X3 w o a b c V2.heap.size 43 (byC e0 e1 e2 e3) V3.heap.size 43 (byC e0 e1 e2 e3)) (x3_new HY.out _ _) ?_; intro W2 hW; have HZ := Lib.hid hW; clear hW; have d0 := HZ.out.1.2.cell 0; have d1 := HZ.out.1.2.cell 1; have d2 := HZ.out.1.2.cell 2; have d3 := HZ.out.1.2.cell 3; have k0 := HZ.out.2.cell 0; have k1 := HZ.out.2.cell 1; have k2 := HZ.out.2.cell 2; have k3 := HZ.out.2.cell 3))
    go_ret
    exact ⟨rfl, HZ.out.1.bel⟩
end Go.Proofs.YtajkccigmiegkaaDoor
