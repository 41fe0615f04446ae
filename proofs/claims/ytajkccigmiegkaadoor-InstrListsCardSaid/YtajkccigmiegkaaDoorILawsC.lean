/- instr: the law InstrDecodes, walked. -/
import Derived.Test.YtajkccigmiegkaaDoorILawsB
set_option linter.unusedVariables false
namespace Go.Proofs.YtajkccigmiegkaaDoor
open Go.RowKit

theorem ne_in (o a b c : Int) (W : World) : (binOp .neq 23 (inV o a b c) (inV o a b c)).run Tryd.prog W = .ok (.bool false) W := by
  have h := eq_in o a b c o a b c W
  simp only [binOp] at h ⊢
  simp only [Op.equal] at h ⊢
  cases hr : (Op.equalIn Op.maxDepth 23 (inV o a b c) (inV o a b c)).run Tryd.prog W with
  | ok v W1 => simp [hr] at h ⊢; exact ⟨by simp [h.1], h.2⟩
  | halt e W1 => simp [hr] at h
theorem dec_in (x0 x1 x2 x3 : Int) : ∃ p q r s, decV x0 x1 x2 x3 = inV p q r s := by
  unfold decV
  split
  · exact ⟨_, _, _, _, rfl⟩
  · exact ⟨_, _, _, _, rfl⟩
theorem AR.drew {w V : World} {cs : Array Value} (h : AR w cs V) : AR w cs V.drew := ⟨h.1.drew, h.2.drew⟩
/-- The argument, and other blocks. -/
def A2 (w : World) (us : Array Value) (g : Nat) (t : TypeId) (cs : Array Value) (V : World) : Prop := AR w us V ∧ Blk V g t cs
theorem A2.under {w V V' : World} {us : Array Value} {g : Nat} {t : TypeId} {cs : Array Value} (h : A2 w us g t cs V) (hb : Below V.heap.size V V') : A2 w us g t cs V' := ⟨h.1.under hb, h.2.under hb⟩
theorem a2_new {w V : World} {us : Array Value} (h : AR w us V) (t : TypeId) (cs : Array Value) : A2 w us V.heap.size t cs (V.alloc (.cells cs t)) := ⟨h.under (below_alloc0 V _), Blk.new V t cs⟩
def A3 (w : World) (us : Array Value) (g : Nat) (t : TypeId) (cs : Array Value) (f : Nat) (u : TypeId) (ds : Array Value) (V : World) : Prop := A2 w us g t cs V ∧ Blk V f u ds
theorem A3.under {w V V' : World} {us : Array Value} {g f : Nat} {t u : TypeId} {cs ds : Array Value} (h : A3 w us g t cs f u ds V) (hb : Below V.heap.size V V') : A3 w us g t cs f u ds V' := ⟨h.1.under hb, h.2.under hb⟩
theorem A3.drew {w V : World} {us : Array Value} {g f : Nat} {t u : TypeId} {cs ds : Array Value} (h : A3 w us g t cs f u ds V) : A3 w us g t cs f u ds V.drew := ⟨⟨h.1.1.drew, h.1.2.drew⟩, h.2.drew⟩
theorem A3.bel {w V : World} {us : Array Value} {g f : Nat} {t u : TypeId} {cs ds : Array Value} (h : A3 w us g t cs f u ds V) : Below w.heap.size w V := h.1.1.2
theorem a3_new {w V : World} {us : Array Value} {g : Nat} {t : TypeId} {cs : Array Value} (h : A2 w us g t cs V) (u : TypeId) (ds : Array Value) : A3 w us g t cs V.heap.size u ds (V.alloc (.cells ds u)) := ⟨h.under (below_alloc0 V _), Blk.new V u ds⟩
set_option maxHeartbeats 2000000 in
set_option maxRecDepth 100000 in
theorem instrDecodes_walk (x0 x1 x2 x3 : Nat) (w : World) (hE : Env w) (b0 : x0 < 256) (b1 : x1 < 256) (b2 : x2 < 256) (b3 : x3 < 256) :
    Calls Tryd.prog 6 #[byV x0 x1 x2 x3] w fun e w' => e = .returned (.bool true) ∧ Below w.heap.size w w' := by
  have HK : Hid (∀ W, Below w.heap.size w W → Calls Tryd.prog 13 #[] W fun e w' => e = .returned (.bool true) ∧ Below W.heap.size W w') := Lib.hid fun W hb => known_any W (hE.below hb)
  obtain ⟨p, q, r, s, hp⟩ := dec_in x0 x1 x2 x3
  obtain ⟨E, hEE⟩ : ∃ E, decE x0 x1 x2 x3 = E := ⟨_, rfl⟩
  have HD : Hid (∀ W, Below w.heap.size w W → Calls Tryd.prog 27 #[byV x0 x1 x2 x3] W fun e w' => e = .returned (.tuple #[inV p q r s, .int .i64 E]) ∧ Below W.heap.size W w') := Lib.hid fun W hb => by rw [← hp, ← hEE]; exact decode_any x0 x1 x2 x3 W (hE.below hb) b0 b1 b2 b3
  have HR : Hid (∀ W, Calls Tryd.prog 29 #[byV x0 x1 x2 x3] W fun e w' => e = .returned (.tuple #[inV p q r s, .int .i64 E]) ∧ Below W.heap.size W w') := Lib.hid fun W => by rw [← hp, ← hEE]; exact rdecode_any x0 x1 x2 x3 W b0 b1 b2 b3
  have HO : Hid (∀ W, Calls Tryd.prog 28 #[inV p q r s] W fun e w' => e = .returned (inV p q r s) ∧ Below W.heap.size W w') := Lib.hid fun W => of_any p q r s W
  obtain ⟨e0, e1, e2, e3, he⟩ := enc_by p q r s
  obtain ⟨z, hz⟩ : ∃ z, chkZ p q r s = z := ⟨_, rfl⟩
  have HC : Hid (∀ W, Below w.heap.size w W → Calls Tryd.prog 25 #[inV p q r s] W fun e w' => e = .returned (.tuple #[byV e0 e1 e2 e3, .int .i64 z]) ∧ Below W.heap.size W w') := Lib.hid fun W hb => by rw [← hz, ← he]; exact encode_any p q r s W (hE.below hb)
  have HX : Hid (AR w (byC x0 x1 x2 x3) (w.alloc (.cells (byC x0 x1 x2 x3) 43))) := Lib.hid ⟨Blk.new w _ _, below_alloc0 w _⟩
  have hq := fun W => ne_in p q r s W
  have key : E = 0 → e0 = (x0 : Int) ∧ e1 = (x1 : Int) ∧ e2 = (x2 : Int) ∧ e3 = (x3 : Int) ∧ z = 0 := by
    intro h0
    rw [← hEE] at h0
    unfold decE at h0
    unfold decV at hp
    split at h0
    · rename_i hk
      rw [if_pos hk] at hp
      injection hp with hp
      injection hp with hp
      simp only [List.cons.injEq, Value.int.injEq, true_and, and_true] at hp
      obtain ⟨rfl, rfl, rfl, rfl⟩ := hp
      unfold encV at he
      rw [if_pos hk] at he
      injection he with he
      injection he with he
      simp only [List.cons.injEq, Value.int.injEq, true_and, and_true] at he
      obtain ⟨rfl, rfl, rfl, rfl⟩ := he
      obtain ⟨g1, g2, g3⟩ := enc_dec b0 b1 b2 b3
      exact ⟨rfl, g3, g1, g2, hz.symm.trans hk⟩
    · cases h0
  have hEn : E = 0 ∨ E = 24 := by
    rw [← hEE]; unfold decE; split
    · exact .inl rfl
    · exact .inr rfl
  clear hE hp hEE he hz b0 b1 b2 b3
  rcases hEn with rfl | rfl
  · obtain ⟨rfl, rfl, rfl, rfl, rfl⟩ := key rfl
    have hq2 : ∀ W, (binOp .eql 43 (byV x0 x1 x2 x3) (byV x0 x1 x2 x3)).run Tryd.prog W = .ok (.bool true) W := fun W => by rw [eq_by]; simp
    clear key
    go_enter Tryd.func6, Tryd.ntmps6
    go_upto_region 5 with (first
      | (go_at_call 13; refine (HK.out _ HX.out.2).mono ?_; rintro e V ⟨rfl, hb⟩; replace HX := Lib.hid (HX.out.under hb); clear hb; have c0 := HX.out.1.cell 0; have c1 := HX.out.1.cell 1; have c2 := HX.out.1.cell 2; have c3 := HX.out.1.cell 3)
      | (go_at_call 27; refine (HD.out _ HX.out.2).mono ?_; rintro e V2 ⟨rfl, hb⟩; replace HX := Lib.hid (HX.out.under hb); clear hb c0 c1 c2 c3)
      | ((with_reducible show wpList _ _ _ (⟨some 17, _, _, _, _, _⟩ :: _) _ _); refine wpl_gen (A2 w (byC x0 x1 x2 x3) V2.heap.size 26 (inC p q r s)) (a2_new HX.out _ _) ?_; intro W1 hW; have HY := Lib.hid hW; clear hW; have c0 := HY.out.1.1.cell 0; have c1 := HY.out.1.1.cell 1; have c2 := HY.out.1.1.cell 2; have c3 := HY.out.1.1.cell 3)
      | (go_at_call 29; refine (HR.out _).mono ?_; rintro e V3 ⟨rfl, hb⟩; replace HY := Lib.hid (HY.out.under hb); clear hb c0 c1 c2 c3))
    refine cwp_gen (A3 w (byC x0 x1 x2 x3) V2.heap.size 26 (inC p q r s) V3.heap.size 23 (inC p q r s)) (a3_new HY.out _ _) ?_
    obtain ⟨g, hg⟩ : ∃ g, g = V2.heap.size := ⟨_, rfl⟩
    obtain ⟨f, hf⟩ : ∃ f, f = V3.heap.size := ⟨_, rfl⟩
    rw [← hg, ← hf]
    clear HX HY hg hf
    intro V hV
    have f0 : ∀ W, A3 w (byC x0 x1 x2 x3) g 26 (inC p q r s) f 23 (inC p q r s) W → W.cell? ⟨g, 0, none⟩ = some (.int .i64 p) := fun W h => h.1.2.cell 0
    have f1 : ∀ W, A3 w (byC x0 x1 x2 x3) g 26 (inC p q r s) f 23 (inC p q r s) W → W.cell? ⟨g, 1, none⟩ = some (.int .i64 q) := fun W h => h.1.2.cell 1
    have f2 : ∀ W, A3 w (byC x0 x1 x2 x3) g 26 (inC p q r s) f 23 (inC p q r s) W → W.cell? ⟨g, 2, none⟩ = some (.int .i64 r) := fun W h => h.1.2.cell 2
    have f3 : ∀ W, A3 w (byC x0 x1 x2 x3) g 26 (inC p q r s) f 23 (inC p q r s) W → W.cell? ⟨g, 3, none⟩ = some (.int .i64 s) := fun W h => h.1.2.cell 3
    have k0 : ∀ W, A3 w (byC x0 x1 x2 x3) g 26 (inC p q r s) f 23 (inC p q r s) W → W.cell? ⟨f, 0, none⟩ = some (.int .i64 p) := fun W h => h.2.cell 0
    have k1 : ∀ W, A3 w (byC x0 x1 x2 x3) g 26 (inC p q r s) f 23 (inC p q r s) W → W.cell? ⟨f, 1, none⟩ = some (.int .i64 q) := fun W h => h.2.cell 1
    have k2 : ∀ W, A3 w (byC x0 x1 x2 x3) g 26 (inC p q r s) f 23 (inC p q r s) W → W.cell? ⟨f, 2, none⟩ = some (.int .i64 r) := fun W h => h.2.cell 2
    have k3 : ∀ W, A3 w (byC x0 x1 x2 x3) g 26 (inC p q r s) f 23 (inC p q r s) W → W.cell? ⟨f, 3, none⟩ = some (.int .i64 s) := fun W h => h.2.cell 3
    go_region_held3 (A3 w (byC x0 x1 x2 x3) g 26 (inC p q r s) f 23 (inC p q r s)) (first | assumption | exact A3.drew (by assumption)) ((first
      | (go_at_call 28; refine (HO.out _).mono ?_; rintro e W1 ⟨rfl, hb⟩; have hS1 := A3.under (by assumption) hb; clear hb)))
    all_goals
      have HZ := Lib.hid ‹A3 w (byC x0 x1 x2 x3) g _ (inC p q r s) f _ (inC p q r s) _›
      clear f0 f1 f2 f3 k0 k1 k2 k3
      have c0 := HZ.out.1.2.cell 0; have c1 := HZ.out.1.2.cell 1; have c2 := HZ.out.1.2.cell 2; have c3 := HZ.out.1.2.cell 3
      go_wp2_with (first
        | (go_at_call 25; refine (HC.out _ HZ.out.bel).mono ?_; rintro e V5 ⟨rfl, hb⟩; replace HZ := Lib.hid (HZ.out.under hb); clear hb c0 c1 c2 c3)
        | ((with_reducible show wpList _ _ _ (⟨some 38, _, _, _, _, _⟩ :: _) _ _); refine wpl_gen (A2 w (byC x0 x1 x2 x3) V5.heap.size 43 (byC x0 x1 x2 x3)) (a2_new HZ.out.1.1 _ _) ?_; intro W1 hW; have HY := Lib.hid hW; clear hW; have c0 := HY.out.1.1.cell 0; have c1 := HY.out.1.1.cell 1; have c2 := HY.out.1.1.cell 2; have c3 := HY.out.1.1.cell 3; have d0 := HY.out.2.cell 0; have d1 := HY.out.2.cell 1; have d2 := HY.out.2.cell 2; have d3 := HY.out.2.cell 3))
      go_ret
      exact ⟨rfl, HY.out.1.2⟩
  · clear key
    go_enter Tryd.func6, Tryd.ntmps6
    go_upto_region 5 with (first
      | (go_at_call 13; refine (HK.out _ HX.out.2).mono ?_; rintro e V ⟨rfl, hb⟩; replace HX := Lib.hid (HX.out.under hb); clear hb; have c0 := HX.out.1.cell 0; have c1 := HX.out.1.cell 1; have c2 := HX.out.1.cell 2; have c3 := HX.out.1.cell 3)
      | (go_at_call 27; refine (HD.out _ HX.out.2).mono ?_; rintro e V2 ⟨rfl, hb⟩; replace HX := Lib.hid (HX.out.under hb); clear hb c0 c1 c2 c3)
      | ((with_reducible show wpList _ _ _ (⟨some 17, _, _, _, _, _⟩ :: _) _ _); refine wpl_gen (A2 w (byC x0 x1 x2 x3) V2.heap.size 26 (inC p q r s)) (a2_new HX.out _ _) ?_; intro W1 hW; have HY := Lib.hid hW; clear hW; have c0 := HY.out.1.1.cell 0; have c1 := HY.out.1.1.cell 1; have c2 := HY.out.1.1.cell 2; have c3 := HY.out.1.1.cell 3)
      | (go_at_call 29; refine (HR.out _).mono ?_; rintro e V3 ⟨rfl, hb⟩; replace HY := Lib.hid (HY.out.under hb); clear hb c0 c1 c2 c3))
    refine cwp_gen (A3 w (byC x0 x1 x2 x3) V2.heap.size 26 (inC p q r s) V3.heap.size 23 (inC p q r s)) (a3_new HY.out _ _) ?_
    obtain ⟨g, hg⟩ : ∃ g, g = V2.heap.size := ⟨_, rfl⟩
    obtain ⟨f, hf⟩ : ∃ f, f = V3.heap.size := ⟨_, rfl⟩
    rw [← hg, ← hf]
    clear HX HY hg hf
    intro V hV
    have f0 : ∀ W, A3 w (byC x0 x1 x2 x3) g 26 (inC p q r s) f 23 (inC p q r s) W → W.cell? ⟨g, 0, none⟩ = some (.int .i64 p) := fun W h => h.1.2.cell 0
    have f1 : ∀ W, A3 w (byC x0 x1 x2 x3) g 26 (inC p q r s) f 23 (inC p q r s) W → W.cell? ⟨g, 1, none⟩ = some (.int .i64 q) := fun W h => h.1.2.cell 1
    have f2 : ∀ W, A3 w (byC x0 x1 x2 x3) g 26 (inC p q r s) f 23 (inC p q r s) W → W.cell? ⟨g, 2, none⟩ = some (.int .i64 r) := fun W h => h.1.2.cell 2
    have f3 : ∀ W, A3 w (byC x0 x1 x2 x3) g 26 (inC p q r s) f 23 (inC p q r s) W → W.cell? ⟨g, 3, none⟩ = some (.int .i64 s) := fun W h => h.1.2.cell 3
    have k0 : ∀ W, A3 w (byC x0 x1 x2 x3) g 26 (inC p q r s) f 23 (inC p q r s) W → W.cell? ⟨f, 0, none⟩ = some (.int .i64 p) := fun W h => h.2.cell 0
    have k1 : ∀ W, A3 w (byC x0 x1 x2 x3) g 26 (inC p q r s) f 23 (inC p q r s) W → W.cell? ⟨f, 1, none⟩ = some (.int .i64 q) := fun W h => h.2.cell 1
    have k2 : ∀ W, A3 w (byC x0 x1 x2 x3) g 26 (inC p q r s) f 23 (inC p q r s) W → W.cell? ⟨f, 2, none⟩ = some (.int .i64 r) := fun W h => h.2.cell 2
    have k3 : ∀ W, A3 w (byC x0 x1 x2 x3) g 26 (inC p q r s) f 23 (inC p q r s) W → W.cell? ⟨f, 3, none⟩ = some (.int .i64 s) := fun W h => h.2.cell 3
    go_region_held3 (A3 w (byC x0 x1 x2 x3) g 26 (inC p q r s) f 23 (inC p q r s)) (first | assumption | exact A3.drew (by assumption)) ((first
      | (go_at_call 28; refine (HO.out _).mono ?_; rintro e W1 ⟨rfl, hb⟩; have hS1 := A3.under (by assumption) hb; clear hb)))
    all_goals
      have HZ := Lib.hid ‹A3 w (byC x0 x1 x2 x3) g _ (inC p q r s) f _ (inC p q r s) _›
      clear f0 f1 f2 f3 k0 k1 k2 k3
      have c0 := HZ.out.1.2.cell 0; have c1 := HZ.out.1.2.cell 1; have c2 := HZ.out.1.2.cell 2; have c3 := HZ.out.1.2.cell 3
      go_wp2_with (first
        | (go_at_call 25; refine (HC.out _ HZ.out.bel).mono ?_; rintro e V5 ⟨rfl, hb⟩; replace HZ := Lib.hid (HZ.out.under hb); clear hb c0 c1 c2 c3)
        | ((with_reducible show wpList _ _ _ (⟨some 38, _, _, _, _, _⟩ :: _) _ _); refine wpl_gen (A2 w (byC x0 x1 x2 x3) V5.heap.size 43 (byC e0 e1 e2 e3)) (a2_new HZ.out.1.1 _ _) ?_; intro W1 hW; have HY := Lib.hid hW; clear hW; have c0 := HY.out.1.1.cell 0; have c1 := HY.out.1.1.cell 1; have c2 := HY.out.1.1.cell 2; have c3 := HY.out.1.1.cell 3; have d0 := HY.out.2.cell 0; have d1 := HY.out.2.cell 1; have d2 := HY.out.2.cell 2; have d3 := HY.out.2.cell 3))
      go_ret
      exact ⟨rfl, HY.out.1.2⟩
end Go.Proofs.YtajkccigmiegkaaDoor
