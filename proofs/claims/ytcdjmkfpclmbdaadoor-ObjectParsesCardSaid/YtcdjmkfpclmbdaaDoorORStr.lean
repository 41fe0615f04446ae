/- object: the reference's words and String. -/
import Derived.Test.YtcdjmkfpclmbdaaDoorOChecks
set_option linter.unusedVariables false
namespace Go.Proofs.YtcdjmkfpclmbdaaDoor
open Go.RowKit

set_option maxHeartbeats 2000000 in
set_option maxRecDepth 100000 in
theorem words_any (k : Nat) (hk : k ≤ 20) (w : World) : Calls Tryd.prog 43 #[] w fun e w' => ∃ g, e = .returned (.slice (some ⟨g, 0, none⟩) 21 21) ∧ Below w.heap.size w w' ∧ w'.cell? ⟨g, k, none⟩ = some (.string (sv (wordN k))) := by
  go_enter Tryd.func43, Tryd.ntmps43
  go_wp2
  go_ret
  refine ⟨_, rfl, (Below.refl _ w).alloc (Nat.le_refl _) _, ?_⟩
  rw [(Blk.new w _ _).cell]
  obtain rfl | rfl | rfl | rfl | rfl | rfl | rfl | rfl | rfl | rfl | rfl | rfl | rfl | rfl | rfl | rfl | rfl | rfl | rfl | rfl | rfl : k = 0 ∨ k = 1 ∨ k = 2 ∨ k = 3 ∨ k = 4 ∨ k = 5 ∨ k = 6 ∨ k = 7 ∨ k = 8 ∨ k = 9 ∨ k = 10 ∨ k = 11 ∨ k = 12 ∨ k = 13 ∨ k = 14 ∨ k = 15 ∨ k = 16 ∨ k = 17 ∨ k = 18 ∨ k = 19 ∨ k = 20 := by omega
  all_goals rfl

set_option maxHeartbeats 8000000 in
set_option maxRecDepth 100000 in
theorem refStr_core (k n i : Nat) (O T : ByteArray) (w : World) (b1 b2 b3 b4 : Bool) (Mst : Int) (A0 A1 OT X1 MK B1 DN X2 C1 DI X3 D1 X4 : ByteArray) (h20 : k ≤ 20)
    (hC : ∀ W, Calls Tryd.prog 12 #[nmV k O n i T] W fun e w' => e = .returned (.int .i64 0) ∧ Below W.heap.size W w')
    (hWd : ∀ W, Calls Tryd.prog 43 #[] W fun e w' => ∃ g, e = .returned (.slice (some ⟨g, 0, none⟩) 21 21) ∧ Below W.heap.size W w' ∧ w'.cell? ⟨g, k, none⟩ = some (.string A0))
    (h1 : ∀ W, Calls Tryd.prog 30 #[.int .i64 (k : Int)] W fun e w' => e = .returned (.bool b1) ∧ W = w')
    (h2 : ∀ W, Calls Tryd.prog 31 #[.int .i64 (k : Int)] W fun e w' => e = .returned (.bool b2) ∧ W = w')
    (h3 : ∀ W, Calls Tryd.prog 32 #[.int .i64 (k : Int)] W fun e w' => e = .returned (.int .i64 Mst) ∧ W = w')
    (h4 : ∀ W, Calls Tryd.prog 33 #[.int .i64 (k : Int)] W fun e w' => e = .returned (.bool b4) ∧ W = w')
    (hDN : ∀ W, Calls Tryd.prog 44 #[.int .i64 (n : Int)] W fun e w' => e = .returned (.string DN) ∧ Below W.heap.size W w')
    (hDI : ∀ W, Calls Tryd.prog 44 #[.int .i64 (i : Int)] W fun e w' => e = .returned (.string DI) ∧ Below W.heap.size W w')
    (hM1 : b3 = true → (0 : Int) ≤ Mst) (hM0 : b3 = false → ¬ (0 : Int) ≤ Mst)
    (hOT : (O.toList = [] ∧ O.toList.isEmpty = true ∧ OT = ⟨#[48]⟩) ∨ (¬ O.toList = [] ∧ O.toList.isEmpty = false ∧ OT = O))
    (a1 : A0 ++ ⟨#[32]⟩ = A1) (x1 : b1 = true → A1 ++ OT = X1) (y1 : b1 = false → A0 = X1)
    (m1 : b1 = true → MK = ⟨#[35]⟩) (m0 : b1 = false → MK = ⟨#[32]⟩)
    (a2 : X1 ++ MK = B1) (x2 : b2 = true → B1 ++ DN = X2) (y2 : b2 = false → X1 = X2)
    (a3 : X2 ++ ⟨#[32]⟩ = C1) (x3 : b3 = true → C1 ++ DI = X3) (y3 : b3 = false → X2 = X3)
    (a4 : X3 ++ ⟨#[32]⟩ = D1) (x4 : b4 = true → D1 ++ T = X4) (y4 : b4 = false → X3 = X4)
    (z1 : ¬ 9223372036854775807 < A0.size + 1) (z1' : ¬ 9223372036854775807 < A1.size + OT.size)
    (z2 : ¬ 9223372036854775807 < X1.size + 1) (z2' : ¬ 9223372036854775807 < B1.size + DN.size)
    (z3 : ¬ 9223372036854775807 < X2.size + 1) (z3' : ¬ 9223372036854775807 < C1.size + DI.size)
    (z4 : ¬ 9223372036854775807 < X3.size + 1) (z4' : ¬ 9223372036854775807 < D1.size + T.size) :
    Calls Tryd.prog 20 #[nmV k O n i T] w fun e w' => e = .returned (.string X4) ∧ Below w.heap.size w w' := by
  have HC := Lib.hid hC
  have HWD := Lib.hid hWd
  have H1 := Lib.hid h1
  have H2 := Lib.hid h2
  have H3 := Lib.hid h3
  have H4 := Lib.hid h4
  have HDN := Lib.hid hDN
  have HDI := Lib.hid hDI
  have HX := Lib.hid (bx_new w (nmC k O n i T))
  have g21 : (k : Int) < 21 := by omega
  clear hC hWd h1 h2 h3 h4 hDN hDI
  go_enter Tryd.func20, Tryd.ntmps20
  have c0 := HX.out.1.cell 0; have c1 := HX.out.1.cell 1; have c2 := HX.out.1.cell 2; have c3 := HX.out.1.cell 3; have c4 := HX.out.1.cell 4
  go_upto_region 3 with (go_at_call 12; refine (HC.out _).mono ?_; rintro e V1 ⟨rfl, hb⟩; replace HX := Lib.hid (HX.out.under hb); clear hb c0 c1 c2 c3 c4)
  go_cut [3] (fun s wx => s = .string A0 ∧ BX w (nmC k O n i T) wx)
  case first =>
    replace HX := Lib.hid HX.out.drew
    have c0 := HX.out.1.cell 0
    go_region_with (go_at_call 43; refine (HWD.out _).mono ?_; rintro e W1 ⟨g, rfl, hb, hc⟩; replace HX := Lib.hid (HX.out.under hb); clear hb c0; have c0 := HX.out.1.cell 0)
    all_goals
      go_wp2
      go_meet
      case rel => exact ⟨rfl, HX.out⟩
  case rest =>
    obtain ⟨hs, hV⟩ := hcut
    subst hs
    clear HX
    have HV := Lib.hid hV
    clear hV
    rcases hOT with ⟨o1, o2, rfl⟩ | ⟨o1, o2, rfl⟩
    all_goals
      cases b1 <;> cases b2 <;> cases b3 <;> cases b4
    all_goals
      first | replace x1 := x1 rfl | clear x1 a1
      first | replace y1 := y1 rfl | clear y1
      first | replace x2 := x2 rfl | clear x2 a2
      first | replace y2 := y2 rfl | clear y2
      first | replace x3 := x3 rfl | clear x3 a3
      first | replace y3 := y3 rfl | clear y3
      first | replace x4 := x4 rfl | clear x4 a4
      first | replace y4 := y4 rfl | clear y4
      first | replace m1 := m1 rfl | clear m1
      first | replace m0 := m0 rfl | clear m0
      first | replace hM1 := hM1 rfl | clear hM1
      first | replace hM0 := hM0 rfl | clear hM0
      (try subst m1); (try subst m0)
      (try subst y1); (try subst y2); (try subst y3); (try subst y4)
      have c0 := HV.out.1.cell 0; have c1 := HV.out.1.cell 1; have c2 := HV.out.1.cell 2; have c3 := HV.out.1.cell 3; have c4 := HV.out.1.cell 4
      go_wp2_with (first
        | (go_at_call 30; refine (H1.out _).mono ?_; rintro e w' ⟨rfl, rfl⟩)
        | (go_at_call 31; refine (H2.out _).mono ?_; rintro e w' ⟨rfl, rfl⟩)
        | (go_at_call 32; refine (H3.out _).mono ?_; rintro e w' ⟨rfl, rfl⟩)
        | (go_at_call 33; refine (H4.out _).mono ?_; rintro e w' ⟨rfl, rfl⟩)
        | (go_at_call 44; (with_reducible refine (HDN.out _).mono ?_); rintro e W2 ⟨rfl, hb⟩; replace HV := Lib.hid (HV.out.under hb); clear hb c0 c1 c2 c3 c4; have c0 := HV.out.1.cell 0; have c1 := HV.out.1.cell 1; have c2 := HV.out.1.cell 2; have c3 := HV.out.1.cell 3; have c4 := HV.out.1.cell 4)
        | (go_at_call 44; (with_reducible refine (HDI.out _).mono ?_); rintro e W2 ⟨rfl, hb⟩; replace HV := Lib.hid (HV.out.under hb); clear hb c0 c1 c2 c3 c4; have c0 := HV.out.1.cell 0; have c1 := HV.out.1.cell 1; have c2 := HV.out.1.cell 2; have c3 := HV.out.1.cell 3; have c4 := HV.out.1.cell 4))
      go_ret
      exact ⟨rfl, HV.out.bel⟩
end Go.Proofs.YtcdjmkfpclmbdaaDoor
