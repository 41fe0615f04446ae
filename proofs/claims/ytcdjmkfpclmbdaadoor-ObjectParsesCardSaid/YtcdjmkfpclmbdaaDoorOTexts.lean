/- object: the walk of the law ObjectTexts. -/
import Derived.Test.YtcdjmkfpclmbdaaDoorORStrB
import Derived.Test.YtcdjmkfpclmbdaaDoorOParse
set_option linter.unusedVariables false
namespace Go.Proofs.YtcdjmkfpclmbdaaDoor
open Go.RowKit

def BZ (w : World) (g : Nat) (cs ms : Array Value) (V : World) : Prop := BX w cs V ∧ Blk V g 31 ms
theorem bz_new {w V : World} {cs ms : Array Value} (h : BX w cs V) : BZ w V.heap.size cs ms (V.alloc (.cells ms 31)) := ⟨⟨h.1.alloc _, h.2.alloc h.2.size _⟩, Blk.new _ _ _⟩
theorem BZ.under {w : World} {g : Nat} {cs ms : Array Value} {V V' : World} (h : BZ w g cs ms V) (hb : Below V.heap.size V V') : BZ w g cs ms V' := ⟨h.1.under hb, h.2.under hb⟩
theorem BZ.bel {w : World} {g : Nat} {cs ms : Array Value} {V : World} (h : BZ w g cs ms V) : Below w.heap.size w V := h.1.2
theorem BZ.drew {w : World} {g : Nat} {cs ms : Array Value} {V : World} (h : BZ w g cs ms V) : BZ w g cs ms V.drew := ⟨h.1.drew, h.2.drew⟩

set_option maxHeartbeats 4000000 in
set_option maxRecDepth 100000 in
theorem texts_long (K : Int) (O : ByteArray) (n i : Int) (T : ByteArray) (w : World)
    (hK : ∀ W, Below w.heap.size w W → Calls Tryd.prog 8 #[] W fun e w' => e = .returned (.bool true) ∧ Below W.heap.size W w')
    (hA : ∀ W, Calls Tryd.prog 9 #[nmV K O n i T] W fun e w' => e = .returned (.bool true) ∧ Below W.heap.size W w') :
    Calls Tryd.prog 5 #[nmV K O n i T] w fun e w' => e = .returned (.bool true) ∧ Below w.heap.size w w' := by
  have HK := Lib.hid hK
  have HLO := Lib.hid hA
  clear hK hA
  go_enter Tryd.func5, Tryd.ntmps5
  have HX := Lib.hid (bx_new w (nmC K O n i T))
  go_wp2_with (first
    | (go_at_call 8; refine (HK.out _ HX.out.bel).mono ?_; rintro e V1 ⟨rfl, hb⟩; replace HX := Lib.hid (HX.out.under hb); clear hb; have c0 := HX.out.1.cell 0; have c1 := HX.out.1.cell 1; have c2 := HX.out.1.cell 2; have c3 := HX.out.1.cell 3; have c4 := HX.out.1.cell 4)
    | (go_at_call 9; refine (HLO.out _).mono ?_; rintro e V1 ⟨rfl, hb⟩; replace HX := Lib.hid (HX.out.under hb); clear hb c0 c1 c2 c3 c4))
  go_ret
  exact ⟨rfl, HX.out.bel⟩

set_option maxHeartbeats 8000000 in
set_option maxRecDepth 100000 in
theorem texts_short (K : Int) (O : ByteArray) (n i : Int) (T : ByteArray) (L : Int) (P : ByteArray) (m j : Int) (Q : ByteArray) (w : World) (S : ByteArray) (C : Nat) (E : Int)
    (hcase : (C ≠ 0 ∧ S = ⟨#[]⟩ ∧ E = 3) ∨ (C = 0 ∧ E = 0))
    (hq : C = 0 → ∀ W, (binOp .eql 23 (nmV L P m j Q) (nmV K O n i T)).run Tryd.prog W = .ok (.bool true) W)
    (hK : ∀ W, Below w.heap.size w W → Calls Tryd.prog 8 #[] W fun e w' => e = .returned (.bool true) ∧ Below W.heap.size W w')
    (hA : ∀ W, Calls Tryd.prog 9 #[nmV K O n i T] W fun e w' => e = .returned (.bool false) ∧ Below W.heap.size W w')
    (hS : ∀ W, Below w.heap.size w W → Calls Tryd.prog 19 #[nmV K O n i T] W fun e w' => e = .returned (.string S) ∧ Below W.heap.size W w')
    (hRS : ∀ W, Calls Tryd.prog 20 #[nmV K O n i T] W fun e w' => e = .returned (.string S) ∧ Below W.heap.size W w')
    (hRC : ∀ W, Calls Tryd.prog 12 #[nmV K O n i T] W fun e w' => e = .returned (.int .i64 (C : Int)) ∧ Below W.heap.size W w')
    (hP : ∀ W, Below w.heap.size w W → Calls Tryd.prog 21 #[.string S] W fun e w' => e = .returned (.tuple #[nmV L P m j Q, .int .i64 E]) ∧ Below W.heap.size W w') :
    Calls Tryd.prog 5 #[nmV K O n i T] w fun e w' => e = .returned (.bool true) ∧ Below w.heap.size w w' := by
  have HK := Lib.hid hK
  have HLO := Lib.hid hA
  have HS := Lib.hid hS
  have HRS := Lib.hid hRS
  have HRC := Lib.hid hRC
  have HP := Lib.hid hP
  have HQ := Lib.hid hq
  have HCA := Lib.hid hcase
  have HTO := Lib.hid fun W => to_any K n i O T W
  have HOF := Lib.hid fun W => ofN_any L m j P Q W
  have e1 : (S.toList == S.toList) = true := by simp
  clear hK hA hS hRS hRC hP hq hcase
  go_enter Tryd.func5, Tryd.ntmps5
  have HX := Lib.hid (bx_new w (nmC K O n i T))
  go_upto_region 7 with (first
    | (go_at_call 8; refine (HK.out _ HX.out.bel).mono ?_; rintro e V1 ⟨rfl, hb⟩; replace HX := Lib.hid (HX.out.under hb); clear hb; have c0 := HX.out.1.cell 0; have c1 := HX.out.1.cell 1; have c2 := HX.out.1.cell 2; have c3 := HX.out.1.cell 3; have c4 := HX.out.1.cell 4)
    | (go_at_call 9; refine (HLO.out _).mono ?_; rintro e V2 ⟨rfl, hb⟩; replace HX := Lib.hid (HX.out.under hb); clear hb c0 c1 c2 c3 c4; have c0 := HX.out.1.cell 0; have c1 := HX.out.1.cell 1; have c2 := HX.out.1.cell 2; have c3 := HX.out.1.cell 3; have c4 := HX.out.1.cell 4)
    | (go_at_call 10; refine (HTO.out _).mono ?_; rintro e V3 ⟨rfl, hb⟩; replace HX := Lib.hid (HX.out.under hb); clear hb c0 c1 c2 c3 c4)
    | (go_at_call 19; refine (HS.out _ HX.out.bel).mono ?_; rintro e V4 ⟨rfl, hb⟩; replace HX := Lib.hid (HX.out.under hb); clear hb; have c0 := HX.out.1.cell 0; have c1 := HX.out.1.cell 1; have c2 := HX.out.1.cell 2; have c3 := HX.out.1.cell 3; have c4 := HX.out.1.cell 4)
    | (go_at_call 20; refine (HRS.out _).mono ?_; rintro e V5 ⟨rfl, hb⟩; replace HX := Lib.hid (HX.out.under hb); clear hb c0 c1 c2 c3 c4)
    | (go_at_call 21; refine (HP.out _ HX.out.bel).mono ?_; rintro e V6 ⟨rfl, hb⟩; replace HX := Lib.hid (HX.out.under hb); clear hb))
  refine cwp_gen (BZ w V6.heap.size (nmC K O n i T) (nmC L P m j Q)) (bz_new HX.out) ?_
  intro V7 hV
  generalize V6.heap.size = g at hV ⊢
  clear HX
  have HV := Lib.hid hV
  clear hV e1
  have c0 := HV.out.1.1.cell 0; have c1 := HV.out.1.1.cell 1; have c2 := HV.out.1.1.cell 2; have c3 := HV.out.1.1.cell 3; have c4 := HV.out.1.1.cell 4
  rcases HCA.out with ⟨hc, rfl, rfl⟩ | ⟨rfl, rfl⟩
  · have g1 : ((C : Int) != 0) = true := by simp; omega
    clear hc
    go_wp2_with (go_at_call 12; refine (HRC.out _).mono ?_; rintro e V8 ⟨rfl, hb⟩; replace HV := Lib.hid (HV.out.under hb); clear hb c0 c1 c2 c3 c4)
    go_ret
    exact ⟨rfl, HV.out.bel⟩
  · go_upto_region 9 with (go_at_call 12; refine (HRC.out _).mono ?_; rintro e V8 ⟨rfl, hb⟩; replace HV := Lib.hid (HV.out.under hb); clear hb c0 c1 c2 c3 c4)
    have hq := HQ.out (by first | trivial | rfl)
    have hV := HV.out
    clear HV
    have f0 : ∀ W, BZ w g (nmC K O n i T) (nmC L P m j Q) W → W.cell? ⟨w.heap.size, 0, none⟩ = some (.int .i64 K) := fun W h => h.1.1.cell 0
    have f1 : ∀ W, BZ w g (nmC K O n i T) (nmC L P m j Q) W → W.cell? ⟨w.heap.size, 1, none⟩ = some (.string O) := fun W h => h.1.1.cell 1
    have f2 : ∀ W, BZ w g (nmC K O n i T) (nmC L P m j Q) W → W.cell? ⟨w.heap.size, 2, none⟩ = some (.int .i64 n) := fun W h => h.1.1.cell 2
    have f3 : ∀ W, BZ w g (nmC K O n i T) (nmC L P m j Q) W → W.cell? ⟨w.heap.size, 3, none⟩ = some (.int .i64 i) := fun W h => h.1.1.cell 3
    have f4 : ∀ W, BZ w g (nmC K O n i T) (nmC L P m j Q) W → W.cell? ⟨w.heap.size, 4, none⟩ = some (.string T) := fun W h => h.1.1.cell 4
    have k0 : ∀ W, BZ w g (nmC K O n i T) (nmC L P m j Q) W → W.cell? ⟨g, 0, none⟩ = some (.int .i64 L) := fun W h => h.2.cell 0
    have k1 : ∀ W, BZ w g (nmC K O n i T) (nmC L P m j Q) W → W.cell? ⟨g, 1, none⟩ = some (.string P) := fun W h => h.2.cell 1
    have k2 : ∀ W, BZ w g (nmC K O n i T) (nmC L P m j Q) W → W.cell? ⟨g, 2, none⟩ = some (.int .i64 m) := fun W h => h.2.cell 2
    have k3 : ∀ W, BZ w g (nmC K O n i T) (nmC L P m j Q) W → W.cell? ⟨g, 3, none⟩ = some (.int .i64 j) := fun W h => h.2.cell 3
    have k4 : ∀ W, BZ w g (nmC K O n i T) (nmC L P m j Q) W → W.cell? ⟨g, 4, none⟩ = some (.string Q) := fun W h => h.2.cell 4
    go_region_held3 (BZ w g (nmC K O n i T) (nmC L P m j Q)) (first | assumption | exact BZ.drew (by assumption)) ((first | (go_at_call 22; refine (HOF.out _).mono ?_; rintro e W1 ⟨rfl, hb⟩; have hS1 := BZ.under (by assumption) hb; clear hb)))
    all_goals
      go_wp2
      go_ret
      exact ⟨rfl, BZ.bel (by assumption)⟩
end Go.Proofs.YtcdjmkfpclmbdaaDoor
