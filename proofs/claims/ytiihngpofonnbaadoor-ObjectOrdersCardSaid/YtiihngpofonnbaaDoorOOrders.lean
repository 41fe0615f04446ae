/- object: the walk of the law ObjectOrders. -/
import Derived.Test.YtiihngpofonnbaaDoorOEqN
set_option linter.unusedVariables false
namespace Go.Proofs.YtiihngpofonnbaaDoor
open Go.RowKit

def B3 (w : World) (us vs cs : Array Value) (V : World) : Prop := Blk V w.heap.size 23 us ∧ Blk V (w.heap.size + 1) 23 vs ∧ Blk V (w.heap.size + 2) 23 cs ∧ Below w.heap.size w V
theorem b3_new (w : World) (us vs cs : Array Value) : B3 w us vs cs (((w.alloc (.cells us 23)).alloc (.cells vs 23)).alloc (.cells cs 23)) := by
  obtain ⟨h1, h2, h3⟩ := b2_new w us vs
  refine ⟨h1.alloc _, h2.alloc _, ?_, h3.alloc (by simp; omega) _⟩
  have e : ((w.alloc (.cells us 23)).alloc (.cells vs 23)).heap.size = w.heap.size + 2 := by simp
  rw [← e]; exact Blk.new _ _ _
theorem B3.under {w : World} {us vs cs : Array Value} {V V' : World} (h : B3 w us vs cs V) (hb : Below V.heap.size V V') : B3 w us vs cs V' := ⟨h.1.under hb, h.2.1.under hb, h.2.2.1.under hb, h.2.2.2.trans (hb.mono h.2.2.2.size)⟩
theorem B3.bel {w : World} {us vs cs : Array Value} {V : World} (h : B3 w us vs cs V) : Below w.heap.size w V := h.2.2.2
theorem B3.drew {w : World} {us vs cs : Array Value} {V : World} (h : B3 w us vs cs V) : B3 w us vs cs V.drew := ⟨h.1.drew, h.2.1.drew, h.2.2.1.drew, h.2.2.2.drew⟩
def D3 (w : World) (g f h : Nat) (us vs cs : Array Value) (V : World) : Prop := B3 w us vs cs V ∧ Blk V g 31 us ∧ Blk V f 31 vs ∧ Blk V h 31 cs
theorem D3.under {w : World} {g f h : Nat} {us vs cs : Array Value} {V V' : World} (q : D3 w g f h us vs cs V) (hb : Below V.heap.size V V') : D3 w g f h us vs cs V' := ⟨q.1.under hb, q.2.1.under hb, q.2.2.1.under hb, q.2.2.2.under hb⟩
theorem D3.bel {w : World} {g f h : Nat} {us vs cs : Array Value} {V : World} (q : D3 w g f h us vs cs V) : Below w.heap.size w V := q.1.bel
theorem D3.drew {w : World} {g f h : Nat} {us vs cs : Array Value} {V : World} (q : D3 w g f h us vs cs V) : D3 w g f h us vs cs V.drew := ⟨q.1.drew, q.2.1.drew, q.2.2.1.drew, q.2.2.2.drew⟩

set_option maxHeartbeats 4000000 in
set_option maxRecDepth 100000 in
theorem orders_long (K : Int) (O : ByteArray) (n i : Int) (T : ByteArray) (L : Int) (P : ByteArray) (m j : Int) (Q : ByteArray) (H : Int) (U : ByteArray) (p l : Int) (X : ByteArray) (w : World) (LA LB LC : Bool) (hl : (LA || LB || LC) = true)
    (hK : ∀ W, Below w.heap.size w W → Calls Tryd.prog 8 #[] W fun e w' => e = .returned (.bool true) ∧ Below W.heap.size W w')
    (hA : ∀ W, Calls Tryd.prog 9 #[nmV K O n i T] W fun e w' => e = .returned (.bool LA) ∧ Below W.heap.size W w')
    (hB : ∀ W, Calls Tryd.prog 9 #[nmV L P m j Q] W fun e w' => e = .returned (.bool LB) ∧ Below W.heap.size W w')
    (hC : ∀ W, Calls Tryd.prog 9 #[nmV H U p l X] W fun e w' => e = .returned (.bool LC) ∧ Below W.heap.size W w') :
    Calls Tryd.prog 4 #[nmV K O n i T, nmV L P m j Q, nmV H U p l X] w fun e w' => e = .returned (.bool true) ∧ Below w.heap.size w w' := by
  have HK := Lib.hid hK
  have HA := Lib.hid hA
  have HB := Lib.hid hB
  have HC := Lib.hid hC
  have HX := Lib.hid (b3_new w (nmC K O n i T) (nmC L P m j Q) (nmC H U p l X))
  clear hK hA hB hC
  cases LA <;> cases LB <;> cases LC
  all_goals first | (exfalso; revert hl; decide) | skip
  all_goals
    go_enter Tryd.func4, Tryd.ntmps4
    go_wp2_with (first
      | (go_at_call 8; refine (HK.out _ HX.out.bel).mono ?_; rintro e V1 ⟨rfl, hb⟩; replace HX := Lib.hid (HX.out.under hb); clear hb; have c0 := HX.out.1.cell 0; have c1 := HX.out.1.cell 1; have c2 := HX.out.1.cell 2; have c3 := HX.out.1.cell 3; have c4 := HX.out.1.cell 4)
      | (go_at_call 9; (with_reducible refine (HA.out _).mono ?_); rintro e V2 ⟨rfl, hb⟩; replace HX := Lib.hid (HX.out.under hb); clear hb c0 c1 c2 c3 c4; have c0 := HX.out.2.1.cell 0; have c1 := HX.out.2.1.cell 1; have c2 := HX.out.2.1.cell 2; have c3 := HX.out.2.1.cell 3; have c4 := HX.out.2.1.cell 4)
      | (go_at_call 9; (with_reducible refine (HB.out _).mono ?_); rintro e V3 ⟨rfl, hb⟩; replace HX := Lib.hid (HX.out.under hb); clear hb c0 c1 c2 c3 c4; have c0 := HX.out.2.2.1.cell 0; have c1 := HX.out.2.2.1.cell 1; have c2 := HX.out.2.2.1.cell 2; have c3 := HX.out.2.2.1.cell 3; have c4 := HX.out.2.2.1.cell 4)
      | (go_at_call 9; (with_reducible refine (HC.out _).mono ?_); rintro e V4 ⟨rfl, hb⟩; replace HX := Lib.hid (HX.out.under hb); clear hb c0 c1 c2 c3 c4))
    go_ret
    exact ⟨rfl, HX.out.bel⟩

set_option maxHeartbeats 8000000 in
set_option maxRecDepth 100000 in
theorem orders_short (K : Int) (O : ByteArray) (n i : Int) (T : ByteArray) (L : Int) (P : ByteArray) (m j : Int) (Q : ByteArray) (H : Int) (U : ByteArray) (p l : Int) (X : ByteArray) (w : World) (R Y Z S : Int) (E : Bool) (hw : IntKind.i64.wrap (-R) = Y) (hE : (R == 0) = E) (hS : 0 < R ∨ 0 < Z ∨ S ≤ 0)
    (hq : ∀ W, (binOp .eql 31 (nmV K O n i T) (nmV L P m j Q)).run Tryd.prog W = .ok (.bool E) W)
    (hK : ∀ W, Below w.heap.size w W → Calls Tryd.prog 8 #[] W fun e w' => e = .returned (.bool true) ∧ Below W.heap.size W w')
    (hA : ∀ W, Calls Tryd.prog 9 #[nmV K O n i T] W fun e w' => e = .returned (.bool false) ∧ Below W.heap.size W w')
    (hB : ∀ W, Calls Tryd.prog 9 #[nmV L P m j Q] W fun e w' => e = .returned (.bool false) ∧ Below W.heap.size W w')
    (hC : ∀ W, Calls Tryd.prog 9 #[nmV H U p l X] W fun e w' => e = .returned (.bool false) ∧ Below W.heap.size W w')
    (hXY : ∀ W, Calls Tryd.prog 17 #[nmV K O n i T, nmV L P m j Q] W fun e w' => e = .returned (.int .i64 R) ∧ Below W.heap.size W w')
    (hYX : ∀ W, Calls Tryd.prog 17 #[nmV L P m j Q, nmV K O n i T] W fun e w' => e = .returned (.int .i64 Y) ∧ Below W.heap.size W w')
    (hYZ : ∀ W, Calls Tryd.prog 17 #[nmV L P m j Q, nmV H U p l X] W fun e w' => e = .returned (.int .i64 Z) ∧ Below W.heap.size W w')
    (hXZ : ∀ W, Calls Tryd.prog 17 #[nmV K O n i T, nmV H U p l X] W fun e w' => e = .returned (.int .i64 S) ∧ Below W.heap.size W w')
    (hR : ∀ W, Calls Tryd.prog 18 #[nmV K O n i T, nmV L P m j Q] W fun e w' => e = .returned (.int .i64 R) ∧ Below W.heap.size W w') :
    Calls Tryd.prog 4 #[nmV K O n i T, nmV L P m j Q, nmV H U p l X] w fun e w' => e = .returned (.bool true) ∧ Below w.heap.size w w' := by
  have HK := Lib.hid hK
  have HA := Lib.hid hA
  have HB := Lib.hid hB
  have HC := Lib.hid hC
  have HXY := Lib.hid hXY
  have HYX := Lib.hid hYX
  have HYZ := Lib.hid hYZ
  have HXZ := Lib.hid hXZ
  have HR := Lib.hid hR
  have HQ := Lib.hid hq
  have HW := Lib.hid hw
  have HE := Lib.hid hE
  have HS := Lib.hid hS
  have HT1 := Lib.hid fun W => to_any K n i O T W
  have HT2 := Lib.hid fun W => to_any L m j P Q W
  have HT3 := Lib.hid fun W => to_any H p l U X W
  have HX := Lib.hid (b3_new w (nmC K O n i T) (nmC L P m j Q) (nmC H U p l X))
  clear hK hA hB hC hXY hYX hYZ hXZ hR hq hw hE hS
  go_enter Tryd.func4, Tryd.ntmps4
  go_upto_region 3 with (first
      | (go_at_call 8; refine (HK.out _ HX.out.bel).mono ?_; rintro e V1 ⟨rfl, hb⟩; replace HX := Lib.hid (HX.out.under hb); clear hb; have c0 := HX.out.1.cell 0; have c1 := HX.out.1.cell 1; have c2 := HX.out.1.cell 2; have c3 := HX.out.1.cell 3; have c4 := HX.out.1.cell 4)
      | (go_at_call 9; (with_reducible refine (HA.out _).mono ?_); rintro e V2 ⟨rfl, hb⟩; replace HX := Lib.hid (HX.out.under hb); clear hb c0 c1 c2 c3 c4; have c0 := HX.out.2.1.cell 0; have c1 := HX.out.2.1.cell 1; have c2 := HX.out.2.1.cell 2; have c3 := HX.out.2.1.cell 3; have c4 := HX.out.2.1.cell 4)
      | (go_at_call 9; (with_reducible refine (HB.out _).mono ?_); rintro e V3 ⟨rfl, hb⟩; replace HX := Lib.hid (HX.out.under hb); clear hb c0 c1 c2 c3 c4; have c0 := HX.out.2.2.1.cell 0; have c1 := HX.out.2.2.1.cell 1; have c2 := HX.out.2.2.1.cell 2; have c3 := HX.out.2.2.1.cell 3; have c4 := HX.out.2.2.1.cell 4)
      | (go_at_call 9; (with_reducible refine (HC.out _).mono ?_); rintro e V4 ⟨rfl, hb⟩; replace HX := Lib.hid (HX.out.under hb); clear hb c0 c1 c2 c3 c4))
  refine asg_region 3 V4 _ 3 7 25 3 (fun j => w.heap.size + j) 23 31 _ (three (nmC K O n i T) (nmC L P m j Q) (nmC H U p l X)) (three (nmC K O n i T) (nmC L P m j Q) (nmC H U p l X)) (nmC 0 ⟨#[]⟩ 0 0 ⟨#[]⟩) rfl rfl (by omega) (by omega) (by simp) (by kernel_rfl) (below3 rfl rfl rfl) (below3 HX.out.1 HX.out.2.1 HX.out.2.2.1) Tryd.underlying23 rfl (below3 infoN infoN infoN) (below3 infoName infoName infoName) (below3 (nm_one _ _ _ _ _) (nm_one _ _ _ _ _) (nm_one _ _ _ _ _)) (below3 rfl rfl rfl) (below3 ⟨_, rfl, rfl, rfl, rfl⟩ ⟨_, rfl, rfl, rfl, rfl⟩ ⟨_, rfl, rfl, rfl, rfl⟩) (below3 ⟨_, rfl, rfl, by kernel_rfl, fun a V K he h => ?_⟩ ⟨_, rfl, rfl, by kernel_rfl, fun a V K he h => ?_⟩ ⟨_, rfl, rfl, by kernel_rfl, fun a V K he h => ?_⟩) (below3 ⟨_, rfl, rfl, fun a V K h => ?_⟩ ⟨_, rfl, rfl, fun a V K h => ?_⟩ ⟨_, rfl, rfl, fun a V K h => ?_⟩) (below3 ⟨_, rfl, rfl, rfl, rfl, by kernel_rfl, by kernel_rfl⟩ ⟨_, rfl, rfl, rfl, rfl, by kernel_rfl, by kernel_rfl⟩ ⟨_, rfl, rfl, rfl, rfl, by kernel_rfl, by kernel_rfl⟩) ?_
  · go_simp
    rw [getD_eval he]
    refine (HT1.out _).mono ?_
    rintro e V' ⟨rfl, hb⟩
    exact h V' hb
  · go_simp
    rw [getD_eval he]
    refine (HT2.out _).mono ?_
    rintro e V' ⟨rfl, hb⟩
    exact h V' hb
  · go_simp
    rw [getD_eval he]
    refine (HT3.out _).mono ?_
    rintro e V' ⟨rfl, hb⟩
    exact h V' hb
  · go_simp
    exact h
  · go_simp
    exact h
  · go_simp
    exact h
  · intro σ V hb h1 h2 h3 h4
    obtain ⟨g, q1, q2, q3⟩ := h3 0 (by omega)
    obtain ⟨f, r1, r2, r3⟩ := h3 1 (by omega)
    obtain ⟨h, s1, s2, s3⟩ := h3 2 (by omega)
    have hV : D3 w g f h (nmC K O n i T) (nmC L P m j Q) (nmC H U p l X) V := ⟨HX.out.under hb, q3, r3, s3⟩
    have e7 : σ 7 = .pointer (some ⟨g, 0, none⟩) := q1
    have e8 : σ 8 = .pointer (some ⟨f, 0, none⟩) := r1
    have e9 : σ 9 = .pointer (some ⟨h, 0, none⟩) := s1
    have e25 : σ 25 = nmV K O n i T := h1 0 (by omega)
    have e26 : σ 26 = nmV K O n i T := h2 0 (by omega)
    have e27 : σ 27 = nmV L P m j Q := h1 1 (by omega)
    have e28 : σ 28 = nmV L P m j Q := h2 1 (by omega)
    have e29 : σ 29 = nmV H U p l X := h1 2 (by omega)
    have e30 : σ 30 = nmV H U p l X := h2 2 (by omega)
    simp only [asgL, List.range', List.cons_append, List.nil_append, puts, e7, e8, e9, e25, e26, e27, e28, e29, e30, Act.put, List.setIfInBounds_toArray, List.set_cons_zero, List.set_cons_succ]
    clear e7 e8 e9 e25 e26 e27 e28 e29 e30 h1 h2 h3 h4 q1 q2 q3 r1 r2 r3 s1 s2 s3 HX hb HK HA HB HC HT1 HT2 HT3
    go_upto_region 4 with fail
    have f0 : ∀ W, D3 w g f h (nmC K O n i T) (nmC L P m j Q) (nmC H U p l X) W → W.cell? ⟨g, 0, none⟩ = some (.int .i64 K) := fun W q => q.2.1.cell 0
    have f1 : ∀ W, D3 w g f h (nmC K O n i T) (nmC L P m j Q) (nmC H U p l X) W → W.cell? ⟨g, 1, none⟩ = some (.string O) := fun W q => q.2.1.cell 1
    have f2 : ∀ W, D3 w g f h (nmC K O n i T) (nmC L P m j Q) (nmC H U p l X) W → W.cell? ⟨g, 2, none⟩ = some (.int .i64 n) := fun W q => q.2.1.cell 2
    have f3 : ∀ W, D3 w g f h (nmC K O n i T) (nmC L P m j Q) (nmC H U p l X) W → W.cell? ⟨g, 3, none⟩ = some (.int .i64 i) := fun W q => q.2.1.cell 3
    have f4 : ∀ W, D3 w g f h (nmC K O n i T) (nmC L P m j Q) (nmC H U p l X) W → W.cell? ⟨g, 4, none⟩ = some (.string T) := fun W q => q.2.1.cell 4
    have k0 : ∀ W, D3 w g f h (nmC K O n i T) (nmC L P m j Q) (nmC H U p l X) W → W.cell? ⟨f, 0, none⟩ = some (.int .i64 L) := fun W q => q.2.2.1.cell 0
    have k1 : ∀ W, D3 w g f h (nmC K O n i T) (nmC L P m j Q) (nmC H U p l X) W → W.cell? ⟨f, 1, none⟩ = some (.string P) := fun W q => q.2.2.1.cell 1
    have k2 : ∀ W, D3 w g f h (nmC K O n i T) (nmC L P m j Q) (nmC H U p l X) W → W.cell? ⟨f, 2, none⟩ = some (.int .i64 m) := fun W q => q.2.2.1.cell 2
    have k3 : ∀ W, D3 w g f h (nmC K O n i T) (nmC L P m j Q) (nmC H U p l X) W → W.cell? ⟨f, 3, none⟩ = some (.int .i64 j) := fun W q => q.2.2.1.cell 3
    have k4 : ∀ W, D3 w g f h (nmC K O n i T) (nmC L P m j Q) (nmC H U p l X) W → W.cell? ⟨f, 4, none⟩ = some (.string Q) := fun W q => q.2.2.1.cell 4
    have l0 : ∀ W, D3 w g f h (nmC K O n i T) (nmC L P m j Q) (nmC H U p l X) W → W.cell? ⟨h, 0, none⟩ = some (.int .i64 H) := fun W q => q.2.2.2.cell 0
    have l1 : ∀ W, D3 w g f h (nmC K O n i T) (nmC L P m j Q) (nmC H U p l X) W → W.cell? ⟨h, 1, none⟩ = some (.string U) := fun W q => q.2.2.2.cell 1
    have l2 : ∀ W, D3 w g f h (nmC K O n i T) (nmC L P m j Q) (nmC H U p l X) W → W.cell? ⟨h, 2, none⟩ = some (.int .i64 p) := fun W q => q.2.2.2.cell 2
    have l3 : ∀ W, D3 w g f h (nmC K O n i T) (nmC L P m j Q) (nmC H U p l X) W → W.cell? ⟨h, 3, none⟩ = some (.int .i64 l) := fun W q => q.2.2.2.cell 3
    have l4 : ∀ W, D3 w g f h (nmC K O n i T) (nmC L P m j Q) (nmC H U p l X) W → W.cell? ⟨h, 4, none⟩ = some (.string X) := fun W q => q.2.2.2.cell 4
    have a0 : ∀ W, D3 w g f h (nmC K O n i T) (nmC L P m j Q) (nmC H U p l X) W → W.cell? ⟨w.heap.size, 0, none⟩ = some (.int .i64 K) := fun W q => q.1.1.cell 0
    have a1 : ∀ W, D3 w g f h (nmC K O n i T) (nmC L P m j Q) (nmC H U p l X) W → W.cell? ⟨w.heap.size, 1, none⟩ = some (.string O) := fun W q => q.1.1.cell 1
    have a2 : ∀ W, D3 w g f h (nmC K O n i T) (nmC L P m j Q) (nmC H U p l X) W → W.cell? ⟨w.heap.size, 2, none⟩ = some (.int .i64 n) := fun W q => q.1.1.cell 2
    have a3 : ∀ W, D3 w g f h (nmC K O n i T) (nmC L P m j Q) (nmC H U p l X) W → W.cell? ⟨w.heap.size, 3, none⟩ = some (.int .i64 i) := fun W q => q.1.1.cell 3
    have a4 : ∀ W, D3 w g f h (nmC K O n i T) (nmC L P m j Q) (nmC H U p l X) W → W.cell? ⟨w.heap.size, 4, none⟩ = some (.string T) := fun W q => q.1.1.cell 4
    have b0 : ∀ W, D3 w g f h (nmC K O n i T) (nmC L P m j Q) (nmC H U p l X) W → W.cell? ⟨(w.heap.size + 1), 0, none⟩ = some (.int .i64 L) := fun W q => q.1.2.1.cell 0
    have b1 : ∀ W, D3 w g f h (nmC K O n i T) (nmC L P m j Q) (nmC H U p l X) W → W.cell? ⟨(w.heap.size + 1), 1, none⟩ = some (.string P) := fun W q => q.1.2.1.cell 1
    have b2 : ∀ W, D3 w g f h (nmC K O n i T) (nmC L P m j Q) (nmC H U p l X) W → W.cell? ⟨(w.heap.size + 1), 2, none⟩ = some (.int .i64 m) := fun W q => q.1.2.1.cell 2
    have b3 : ∀ W, D3 w g f h (nmC K O n i T) (nmC L P m j Q) (nmC H U p l X) W → W.cell? ⟨(w.heap.size + 1), 3, none⟩ = some (.int .i64 j) := fun W q => q.1.2.1.cell 3
    have b4 : ∀ W, D3 w g f h (nmC K O n i T) (nmC L P m j Q) (nmC H U p l X) W → W.cell? ⟨(w.heap.size + 1), 4, none⟩ = some (.string Q) := fun W q => q.1.2.1.cell 4
    have hq := HQ.out
    have hw := HW.out
    have hE := HE.out
    go_region_held3 (D3 w g f h (nmC K O n i T) (nmC L P m j Q) (nmC H U p l X)) (first | assumption | exact D3.drew (by assumption)) ((first
        | (go_at_call 17; (with_reducible refine (HXY.out _).mono ?_); rintro e W1 ⟨rfl, hb⟩; have hS1 := D3.under (by assumption) hb; clear hb)
        | (go_at_call 17; (with_reducible refine (HYX.out _).mono ?_); rintro e W1 ⟨rfl, hb⟩; have hS1 := D3.under (by assumption) hb; clear hb)
        | (go_at_call 18; (with_reducible refine (HR.out _).mono ?_); rintro e W1 ⟨rfl, hb⟩; have hS1 := D3.under (by assumption) hb; clear hb)))
    all_goals
      have HD := Lib.hid ‹D3 w g f h (nmC K O n i T) (nmC L P m j Q) (nmC H U p l X) _›
      clear f0 f1 f2 f3 f4 k0 k1 k2 k3 k4 l0 l1 l2 l3 l4 a0 a1 a2 a3 a4 b0 b1 b2 b3 b4
      have c0 := HD.out.2.1.cell 0; have c1 := HD.out.2.1.cell 1; have c2 := HD.out.2.1.cell 2; have c3 := HD.out.2.1.cell 3; have c4 := HD.out.2.1.cell 4; have d0 := HD.out.2.2.1.cell 0; have d1 := HD.out.2.2.1.cell 1; have d2 := HD.out.2.2.1.cell 2; have d3 := HD.out.2.2.1.cell 3; have d4 := HD.out.2.2.1.cell 4; have e0 := HD.out.2.2.2.cell 0; have e1 := HD.out.2.2.2.cell 1; have e2 := HD.out.2.2.2.cell 2; have e3 := HD.out.2.2.2.cell 3; have e4 := HD.out.2.2.2.cell 4
      have hS := HS.out
      clear HS HQ HW HE
      by_cases g1 : 0 < R
      · clear hS
        go_wp2_with (first
          | (go_at_call 17; (with_reducible refine (HXY.out _).mono ?_); rintro r W1 ⟨rfl, hb⟩; replace HD := Lib.hid (HD.out.under hb); clear hb c0 c1 c2 c3 c4 d0 d1 d2 d3 d4 e0 e1 e2 e3 e4; have c0 := HD.out.2.1.cell 0; have c1 := HD.out.2.1.cell 1; have c2 := HD.out.2.1.cell 2; have c3 := HD.out.2.1.cell 3; have c4 := HD.out.2.1.cell 4; have d0 := HD.out.2.2.1.cell 0; have d1 := HD.out.2.2.1.cell 1; have d2 := HD.out.2.2.1.cell 2; have d3 := HD.out.2.2.1.cell 3; have d4 := HD.out.2.2.1.cell 4; have e0 := HD.out.2.2.2.cell 0; have e1 := HD.out.2.2.2.cell 1; have e2 := HD.out.2.2.2.cell 2; have e3 := HD.out.2.2.2.cell 3; have e4 := HD.out.2.2.2.cell 4))
        go_ret
        exact ⟨rfl, HD.out.bel⟩
      · by_cases g2 : 0 < Z
        · clear hS
          go_wp2_with (first
            | (go_at_call 17; (with_reducible refine (HXY.out _).mono ?_); rintro r W1 ⟨rfl, hb⟩; replace HD := Lib.hid (HD.out.under hb); clear hb c0 c1 c2 c3 c4 d0 d1 d2 d3 d4 e0 e1 e2 e3 e4; have c0 := HD.out.2.1.cell 0; have c1 := HD.out.2.1.cell 1; have c2 := HD.out.2.1.cell 2; have c3 := HD.out.2.1.cell 3; have c4 := HD.out.2.1.cell 4; have d0 := HD.out.2.2.1.cell 0; have d1 := HD.out.2.2.1.cell 1; have d2 := HD.out.2.2.1.cell 2; have d3 := HD.out.2.2.1.cell 3; have d4 := HD.out.2.2.1.cell 4; have e0 := HD.out.2.2.2.cell 0; have e1 := HD.out.2.2.2.cell 1; have e2 := HD.out.2.2.2.cell 2; have e3 := HD.out.2.2.2.cell 3; have e4 := HD.out.2.2.2.cell 4)
            | (go_at_call 17; (with_reducible refine (HYZ.out _).mono ?_); rintro r W1 ⟨rfl, hb⟩; replace HD := Lib.hid (HD.out.under hb); clear hb c0 c1 c2 c3 c4 d0 d1 d2 d3 d4 e0 e1 e2 e3 e4; have c0 := HD.out.2.1.cell 0; have c1 := HD.out.2.1.cell 1; have c2 := HD.out.2.1.cell 2; have c3 := HD.out.2.1.cell 3; have c4 := HD.out.2.1.cell 4; have d0 := HD.out.2.2.1.cell 0; have d1 := HD.out.2.2.1.cell 1; have d2 := HD.out.2.2.1.cell 2; have d3 := HD.out.2.2.1.cell 3; have d4 := HD.out.2.2.1.cell 4; have e0 := HD.out.2.2.2.cell 0; have e1 := HD.out.2.2.2.cell 1; have e2 := HD.out.2.2.2.cell 2; have e3 := HD.out.2.2.2.cell 3; have e4 := HD.out.2.2.2.cell 4))
          go_ret
          exact ⟨rfl, HD.out.bel⟩
        · have g3 : S ≤ 0 := by omega
          clear hS
          go_wp2_with (first
            | (go_at_call 17; (with_reducible refine (HXY.out _).mono ?_); rintro r W1 ⟨rfl, hb⟩; replace HD := Lib.hid (HD.out.under hb); clear hb c0 c1 c2 c3 c4 d0 d1 d2 d3 d4 e0 e1 e2 e3 e4; have c0 := HD.out.2.1.cell 0; have c1 := HD.out.2.1.cell 1; have c2 := HD.out.2.1.cell 2; have c3 := HD.out.2.1.cell 3; have c4 := HD.out.2.1.cell 4; have d0 := HD.out.2.2.1.cell 0; have d1 := HD.out.2.2.1.cell 1; have d2 := HD.out.2.2.1.cell 2; have d3 := HD.out.2.2.1.cell 3; have d4 := HD.out.2.2.1.cell 4; have e0 := HD.out.2.2.2.cell 0; have e1 := HD.out.2.2.2.cell 1; have e2 := HD.out.2.2.2.cell 2; have e3 := HD.out.2.2.2.cell 3; have e4 := HD.out.2.2.2.cell 4)
            | (go_at_call 17; (with_reducible refine (HYZ.out _).mono ?_); rintro r W1 ⟨rfl, hb⟩; replace HD := Lib.hid (HD.out.under hb); clear hb c0 c1 c2 c3 c4 d0 d1 d2 d3 d4 e0 e1 e2 e3 e4; have c0 := HD.out.2.1.cell 0; have c1 := HD.out.2.1.cell 1; have c2 := HD.out.2.1.cell 2; have c3 := HD.out.2.1.cell 3; have c4 := HD.out.2.1.cell 4; have d0 := HD.out.2.2.1.cell 0; have d1 := HD.out.2.2.1.cell 1; have d2 := HD.out.2.2.1.cell 2; have d3 := HD.out.2.2.1.cell 3; have d4 := HD.out.2.2.1.cell 4; have e0 := HD.out.2.2.2.cell 0; have e1 := HD.out.2.2.2.cell 1; have e2 := HD.out.2.2.2.cell 2; have e3 := HD.out.2.2.2.cell 3; have e4 := HD.out.2.2.2.cell 4)
            | (go_at_call 17; (with_reducible refine (HXZ.out _).mono ?_); rintro r W1 ⟨rfl, hb⟩; replace HD := Lib.hid (HD.out.under hb); clear hb c0 c1 c2 c3 c4 d0 d1 d2 d3 d4 e0 e1 e2 e3 e4; have c0 := HD.out.2.1.cell 0; have c1 := HD.out.2.1.cell 1; have c2 := HD.out.2.1.cell 2; have c3 := HD.out.2.1.cell 3; have c4 := HD.out.2.1.cell 4; have d0 := HD.out.2.2.1.cell 0; have d1 := HD.out.2.2.1.cell 1; have d2 := HD.out.2.2.1.cell 2; have d3 := HD.out.2.2.1.cell 3; have d4 := HD.out.2.2.1.cell 4; have e0 := HD.out.2.2.2.cell 0; have e1 := HD.out.2.2.2.cell 1; have e2 := HD.out.2.2.2.cell 2; have e3 := HD.out.2.2.2.cell 3; have e4 := HD.out.2.2.2.cell 4))
          go_ret
          exact ⟨rfl, HD.out.bel⟩
end Go.Proofs.YtiihngpofonnbaaDoor
