/- object: the walk of the law ObjectChecks. -/
import Derived.Test.YtcdjmkfpclmbdaaDoorORChkB
set_option linter.unusedVariables false
namespace Go.Proofs.YtcdjmkfpclmbdaaDoor
open Go.RowKit

/-- The law's blocks: the name, the birth. -/
def QK (w : World) (cs bs : Array Value) (V : World) : Prop := Blk V w.heap.size 23 cs ∧ Blk V (w.heap.size + 1) 28 bs ∧ Below w.heap.size w V
theorem Blk.one {w : World} {cs : Array Value} {t : TypeId} : Blk (w.alloc (.cells cs t)) w.heap.size t cs := Blk.new _ _ _
/-- A name of the reference, boxed. -/
def BX (w : World) (cs : Array Value) (V : World) : Prop := Blk V w.heap.size 23 cs ∧ Below w.heap.size w V
theorem bx_new (w : World) (cs : Array Value) : BX w cs (w.alloc (.cells cs 23)) := ⟨Blk.new _ _ _, below_alloc0 _ _ (Nat.le_refl _)⟩
theorem BX.under {w : World} {cs : Array Value} {V V' : World} (h : BX w cs V) (hb : Below V.heap.size V V') : BX w cs V' := ⟨h.1.under hb, h.2.trans (hb.mono h.2.size)⟩
theorem BX.bel {w : World} {cs : Array Value} {V : World} (h : BX w cs V) : Below w.heap.size w V := h.2
theorem BX.drew {w : World} {cs : Array Value} {V : World} (h : BX w cs V) : BX w cs V.drew := ⟨h.1.drew, h.2.drew⟩
def BY (w : World) (g : Nat) (cs bs : Array Value) (V : World) : Prop := BX w cs V ∧ Blk V g 28 bs
theorem by_new {w V : World} {cs bs : Array Value} (h : BX w cs V) : BY w V.heap.size cs bs (V.alloc (.cells bs 28)) := ⟨⟨h.1.alloc _, h.2.alloc h.2.size _⟩, Blk.new _ _ _⟩
theorem BY.under {w : World} {g : Nat} {cs bs : Array Value} {V V' : World} (h : BY w g cs bs V) (hb : Below V.heap.size V V') : BY w g cs bs V' := ⟨h.1.under hb, h.2.under hb⟩
theorem BY.bel {w : World} {g : Nat} {cs bs : Array Value} {V : World} (h : BY w g cs bs V) : Below w.heap.size w V := h.1.2
theorem BY.drew {w : World} {g : Nat} {cs bs : Array Value} {V : World} (h : BY w g cs bs V) : BY w g cs bs V.drew := ⟨h.1.drew, h.2.drew⟩

set_option maxHeartbeats 4000000 in
set_option maxRecDepth 100000 in
theorem objectChecks_walk (K : Int) (O : ByteArray) (n i : Int) (T : ByteArray) (w : World) (hE : Env w) (wK : (Lit.int .i64 K).wf = true) (wn : (Lit.int .i64 n).wf = true) (wi : (Lit.int .i64 i).wf = true) (hO : O.size ≤ maxLen) (hT : T.size ≤ maxLen) :
    Calls Tryd.prog 3 #[nmV K O n i T] w fun e w' => e = .returned (.bool true) ∧ Below w.heap.size w w' := by
  have HK : Hid (∀ W, Below w.heap.size w W → Calls Tryd.prog 8 #[] W fun e w' => e = .returned (.bool true) ∧ Below W.heap.size W w') := Lib.hid fun W hb => known_any W (hE.below hb)
  have HLO := Lib.hid fun W => long_any K n i O T W hO hT
  by_cases hl : longB O T = true
  · rw [hl] at HLO
    clear hE hO hT
    go_enter Tryd.func3, Tryd.ntmps3
    have HX := Lib.hid (bx_new w (nmC K O n i T))
    go_wp2_with (first
      | (go_at_call 8; refine (HK.out _ HX.out.bel).mono ?_; rintro e V1 ⟨rfl, hb⟩; replace HX := Lib.hid (HX.out.under hb); clear hb; have c0 := HX.out.1.cell 0; have c1 := HX.out.1.cell 1; have c2 := HX.out.1.cell 2; have c3 := HX.out.1.cell 3; have c4 := HX.out.1.cell 4)
      | (go_at_call 9; refine (HLO.out _).mono ?_; rintro e V1 ⟨rfl, hb⟩; replace HX := Lib.hid (HX.out.under hb); clear hb c0 c1 c2 c3 c4))
    go_ret
    exact ⟨rfl, HX.out.bel⟩
  · have hl2 : longB O T = false := by simpa using hl
    rw [hl2] at HLO
    unfold longB at hl2
    simp only [Bool.or_eq_false_iff, decide_eq_false_iff_not] at hl2
    obtain ⟨C, hC⟩ : ∃ C, C = checkN ⟨K, O.data.toList, n, i, T.data.toList⟩ := ⟨_, rfl⟩
    obtain ⟨D, hD⟩ : ∃ D, D = birthN O.data.toList n := ⟨_, rfl⟩
    obtain ⟨F, hF⟩ : ∃ F, F = wordB T.data.toList := ⟨_, rfl⟩
    obtain ⟨G, hG⟩ : ∃ G, G = wordB O.data.toList := ⟨_, rfl⟩
    have HTO := Lib.hid fun W => to_any K n i O T W
    have HCH : Hid (∀ W, Below w.heap.size w W → Calls Tryd.prog 11 #[nmV K O n i T] W fun e w' => e = .returned (.int .i64 (C : Int)) ∧ Below W.heap.size W w') := Lib.hid fun W hb => by rw [hC]; exact check_any K n i O T W (hE.below hb) (by omega)
    have HRC : Hid (∀ W, Calls Tryd.prog 12 #[nmV K O n i T] W fun e w' => e = .returned (.int .i64 (C : Int)) ∧ Below W.heap.size W w') := Lib.hid fun W => by rw [hC]; exact refCheck_any K n i O T W (by omega) hT
    have HBI : Hid (∀ W, Calls Tryd.prog 13 #[.agg #[.string O, .int .i64 n]] W fun e w' => e = .returned (.int .i64 (D : Int)) ∧ Below W.heap.size W w') := Lib.hid fun W => by rw [hD]; exact birth_any n O W (by omega)
    have HRB : Hid (∀ W, Calls Tryd.prog 14 #[.string O, .int .i64 n] W fun e w' => e = .returned (.int .i64 (D : Int)) ∧ Below W.heap.size W w') := Lib.hid fun W => by rw [hD]; exact refBirth_any n O W (by omega)
    have HWT : Hid (∀ W, Calls Tryd.prog 15 #[.string T] W fun e w' => e = .returned (.bool F) ∧ W = w') := Lib.hid fun W => by rw [hF]; exact word_any T W
    have HRT : Hid (∀ W, Calls Tryd.prog 16 #[.string T] W fun e w' => e = .returned (.bool F) ∧ W = w') := Lib.hid fun W => by rw [hF]; exact refWord_any T W hT
    have HWO : Hid (∀ W, Calls Tryd.prog 15 #[.string O] W fun e w' => e = .returned (.bool G) ∧ W = w') := Lib.hid fun W => by rw [hG]; exact word_any O W
    have HRO : Hid (∀ W, Calls Tryd.prog 16 #[.string O] W fun e w' => e = .returned (.bool G) ∧ W = w') := Lib.hid fun W => by rw [hG]; exact refWord_any O W hO
    clear hE hC hD hF hG hl2 hl hO hT
    have tok1 : True := trivial
    go_enter Tryd.func3, Tryd.ntmps3
    have HX := Lib.hid (bx_new w (nmC K O n i T))
    go_wp2_with (first
      | (go_at_call 8; refine (HK.out _ HX.out.bel).mono ?_; rintro e V1 ⟨rfl, hb⟩; replace HX := Lib.hid (HX.out.under hb); clear hb; have c0 := HX.out.1.cell 0; have c1 := HX.out.1.cell 1; have c2 := HX.out.1.cell 2; have c3 := HX.out.1.cell 3; have c4 := HX.out.1.cell 4)
      | (go_at_call 9; refine (HLO.out _).mono ?_; rintro e V2 ⟨rfl, hb⟩; replace HX := Lib.hid (HX.out.under hb); clear hb c0 c1 c2 c3 c4; have c1 := HX.out.1.cell 1; have c2 := HX.out.1.cell 2))
    refine cwp_gen (BY w V2.heap.size (nmC K O n i T) #[.string O, .int .i64 n]) (by_new HX.out) ?_
    intro V3 hV
    generalize V2.heap.size = g at hV ⊢
    clear HX c1 c2
    have f0 : ∀ W, BY w g (nmC K O n i T) #[.string O, .int .i64 n] W → W.cell? ⟨w.heap.size, 0, none⟩ = some (.int .i64 K) := fun W h => h.1.1.cell 0
    have f1 : ∀ W, BY w g (nmC K O n i T) #[.string O, .int .i64 n] W → W.cell? ⟨w.heap.size, 1, none⟩ = some (.string O) := fun W h => h.1.1.cell 1
    have f2 : ∀ W, BY w g (nmC K O n i T) #[.string O, .int .i64 n] W → W.cell? ⟨w.heap.size, 2, none⟩ = some (.int .i64 n) := fun W h => h.1.1.cell 2
    have f3 : ∀ W, BY w g (nmC K O n i T) #[.string O, .int .i64 n] W → W.cell? ⟨w.heap.size, 3, none⟩ = some (.int .i64 i) := fun W h => h.1.1.cell 3
    have f4 : ∀ W, BY w g (nmC K O n i T) #[.string O, .int .i64 n] W → W.cell? ⟨w.heap.size, 4, none⟩ = some (.string T) := fun W h => h.1.1.cell 4
    have k0 : ∀ W, BY w g (nmC K O n i T) #[.string O, .int .i64 n] W → W.cell? ⟨g, 0, none⟩ = some (.string O) := fun W h => h.2.cell 0
    have k1 : ∀ W, BY w g (nmC K O n i T) #[.string O, .int .i64 n] W → W.cell? ⟨g, 1, none⟩ = some (.int .i64 n) := fun W h => h.2.cell 1
    go_region_held3 (BY w g (nmC K O n i T) #[.string O, .int .i64 n]) (first | assumption | exact BY.drew (by assumption)) ((first
      | (go_at_call 10; refine (HTO.out _).mono ?_; rintro e W1 ⟨rfl, hb⟩; have hS1 := BY.under (by assumption) hb; clear hb)
      | (go_at_call 11; refine (HCH.out _ (BY.bel (by assumption))).mono ?_; rintro e W2 ⟨rfl, hb⟩; have hS2 := BY.under (by assumption) hb; clear hb)
      | (go_at_call 12; refine (HRC.out _).mono ?_; rintro e W3 ⟨rfl, hb⟩; have hS3 := BY.under (by assumption) hb; clear hb)
      | (go_at_call 13; refine (HBI.out _).mono ?_; rintro e W4 ⟨rfl, hb⟩; have hS4 := BY.under (by assumption) hb; clear hb)
      | (go_at_call 14; refine (HRB.out _).mono ?_; rintro e W5 ⟨rfl, hb⟩; have hS5 := BY.under (by assumption) hb; clear hb)
      | (go_at_call 15; (with_reducible refine (HWT.out _).mono ?_); rintro e w' ⟨rfl, rfl⟩)
      | (go_at_call 16; (with_reducible refine (HRT.out _).mono ?_); rintro e w' ⟨rfl, rfl⟩)
      | (go_at_call 15; (with_reducible refine (HWO.out _).mono ?_); rintro e w' ⟨rfl, rfl⟩)
      | (go_at_call 16; (with_reducible refine (HRO.out _).mono ?_); rintro e w' ⟨rfl, rfl⟩)))
    all_goals
      go_wp2
      go_ret
      exact ⟨rfl, BY.bel (by assumption)⟩
end Go.Proofs.YtcdjmkfpclmbdaaDoor
