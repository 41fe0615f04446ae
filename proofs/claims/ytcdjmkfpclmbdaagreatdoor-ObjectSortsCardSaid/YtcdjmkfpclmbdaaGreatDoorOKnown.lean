/- object: the examples that every statement of the layer checks first. -/
import Derived.Test.YtcdjmkfpclmbdaaGreatDoorOMk
set_option linter.unusedVariables false
namespace Go.Proofs.YtcdjmkfpclmbdaaGreatDoor
open Go.RowKit

theorem v31 : validB [51, 46, 49] = true := by decide
theorem vn8 : Vn 8 [51, 46, 49] 2 5 [] := ⟨by decide, by decide, by decide, by decide, by decide, by decide, v31, by decide, by decide, by decide⟩
theorem vn10 : Vn 10 [] 0 0 [] := ⟨by decide, by decide, by decide, by decide, by decide, by decide, rfl, by decide, by decide, by decide⟩
theorem text8 : textN ⟨8, [51, 46, 49], 2, 5, []⟩ = [98, 108, 111, 99, 107, 32, 51, 46, 49, 35, 50, 32, 53] := by
  have h := textN_vn vn8
  rw [show ((8 : Nat) : Int) = 8 from rfl, show ((2 : Nat) : Int) = 2 from rfl, show ((5 : Nat) : Int) = 5 from rfl] at h
  rw [h]
  unfold nameT t1 t2 t3 t4
  rw [dec_small (n := 2) (by decide), dec_small (n := 5) (by decide)]
  rfl
theorem enc8 : encN ⟨8, [51, 46, 49], 2, 5, []⟩ = [8, 3, 51, 46, 49, 2, 5] := by
  have h := encN_vn vn8
  rw [show ((8 : Nat) : Int) = 8 from rfl, show ((2 : Nat) : Int) = 2 from rfl, show ((5 : Nat) : Int) = 5 from rfl] at h
  rw [h]
  unfold encT encR encO encI
  rw [Cod.enc_low (n := 8) (by decide), Cod.enc_low (n := 2) (by decide), Cod.enc_low (n := 5) (by decide)]
  rw [show ([51, 46, 49] : List UInt8).length = 3 from rfl, Cod.enc_low (n := 3) (by decide)]
  rfl
theorem chk8 : checkN ⟨8, [51, 46, 49], 2, 5, []⟩ = 0 := vn_check vn8
theorem parse10 : parseN [108, 105, 115, 116, 105, 110, 103, 32, 48, 35, 48] = (⟨10, [], 0, 0, []⟩, 0) := by
  have h := parse_text vn10
  have e : nameT 10 [] 0 0 [] = [108, 105, 115, 116, 105, 110, 103, 32, 48, 35, 48] := by
    unfold nameT t1 t2 t3 t4
    rw [dec_small (n := 0) (by decide)]
    rfl
  rw [e] at h
  exact h
theorem read64 : readN [112, 97, 103, 101, 32, 51, 46, 49, 32, 54, 52] = ⟨3, [51, 46, 49], 0, 64, []⟩ := rfl
theorem parse64 : parseN [112, 97, 103, 101, 32, 51, 46, 49, 32, 54, 52] = (⟨0, [], 0, 0, []⟩, 3) := by
  rcases parse_or [112, 97, 103, 101, 32, 51, 46, 49, 32, 54, 52] with ⟨_, _, h, _⟩ | ⟨h, _⟩
  · rw [read64] at h; exact absurd h (by decide)
  · exact h

/-- The blocks of the examples' names. -/
def PA (w : World) (g : Nat) (V : World) : Prop := Blk V g 28 (nmC 8 ⟨#[51, 46, 49]⟩ 2 5 ⟨#[]⟩) ∧ Below w.heap.size w V
theorem PA.under {w : World} {g : Nat} {V V' : World} (h : PA w g V) (hb : Below V.heap.size V V') : PA w g V' := ⟨h.1.under hb, h.2.trans (hb.mono h.2.size)⟩
theorem PA.bel {w : World} {g : Nat} {V : World} (h : PA w g V) : Below w.heap.size w V := h.2
theorem pa_new {w V : World} (hb : Below w.heap.size w V) : PA w V.heap.size (V.alloc (.cells (nmC 8 ⟨#[51, 46, 49]⟩ 2 5 ⟨#[]⟩) 28)) := ⟨Blk.new _ _ _, hb.alloc hb.size _⟩
def PB2 (w : World) (g f : Nat) (V : World) : Prop := PA w g V ∧ Blk V f 28 (nmC 10 ⟨#[]⟩ 0 0 ⟨#[]⟩)
theorem PB2.under {w : World} {g f : Nat} {V V' : World} (h : PB2 w g f V) (hb : Below V.heap.size V V') : PB2 w g f V' := ⟨h.1.under hb, h.2.under hb⟩
theorem PB2.bel {w : World} {g f : Nat} {V : World} (h : PB2 w g f V) : Below w.heap.size w V := h.1.2
theorem PB2.drew {w : World} {g f : Nat} {V : World} (h : PB2 w g f V) : PB2 w g f V.drew := ⟨⟨h.1.1.drew, h.1.2.drew⟩, h.2.drew⟩
theorem pb2_new {w V : World} {g : Nat} (h : PA w g V) : PB2 w g V.heap.size (V.alloc (.cells (nmC 10 ⟨#[]⟩ 0 0 ⟨#[]⟩) 28)) :=
  ⟨⟨h.1.alloc _, h.2.alloc h.2.size _⟩, Blk.new _ _ _⟩
theorem PB2.alloc {w : World} {g f : Nat} {V : World} (h : PB2 w g f V) (o : Obj) : PB2 w g f (V.alloc o) := ⟨⟨h.1.1.alloc _, h.1.2.alloc h.1.2.size _⟩, h.2.alloc _⟩

set_option maxHeartbeats 4000000 in
set_option maxRecDepth 100000 in
theorem known_any (w : World) (hE : Env w) : Calls Tryz.prog 7 #[] w fun e w' => e = .returned (.bool true) ∧ Below w.heap.size w w' := by
  have HB : Hid (∀ W, Calls Tryz.prog 25 #[.agg #[.string ⟨#[51, 46, 49]⟩, .int .i64 2], .int .i64 5] W fun e w' => e = .returned (nmV 8 ⟨#[51, 46, 49]⟩ 2 5 ⟨#[]⟩) ∧ Below W.heap.size W w') := Lib.hid fun W => ofBlock_any 2 5 _ W
  have HE : Hid (∀ W, Below w.heap.size w W → Calls Tryz.prog 21 #[nmV 8 ⟨#[51, 46, 49]⟩ 2 5 ⟨#[]⟩] W fun e w' => e = .returned (.tuple #[.string ⟨#[8, 3, 51, 46, 49, 2, 5]⟩, .int .i64 0]) ∧ Below W.heap.size W w') := Lib.hid fun W hb => by
    have h := encode_any 8 2 5 ⟨#[51, 46, 49]⟩ ⟨#[]⟩ W (hE.below hb) (by decide)
    rw [show (ByteArray.mk #[51, 46, 49]).data.toList = [51, 46, 49] from rfl, show (ByteArray.mk #[]).data.toList = [] from rfl, enc8, chk8] at h
    exact h
  have HP1 : Hid (∀ W, Below w.heap.size w W → Calls Tryz.prog 26 #[.string ⟨#[108, 105, 115, 116, 105, 110, 103, 32, 48, 35, 48]⟩] W fun e w' => e = .returned (.tuple #[nmV 10 ⟨#[]⟩ 0 0 ⟨#[]⟩, .int .i64 0]) ∧ Below W.heap.size W w') := Lib.hid fun W hb => by
    have h := parse_any ⟨#[108, 105, 115, 116, 105, 110, 103, 32, 48, 35, 48]⟩ W (hE.below hb) (by decide)
    rw [show (ByteArray.mk #[108, 105, 115, 116, 105, 110, 103, 32, 48, 35, 48]).data.toList = [108, 105, 115, 116, 105, 110, 103, 32, 48, 35, 48] from rfl, parse10] at h
    exact h
  have HP2 : Hid (∀ W, Below w.heap.size w W → Calls Tryz.prog 26 #[.string ⟨#[112, 97, 103, 101, 32, 51, 46, 49, 32, 54, 52]⟩] W fun e w' => e = .returned (.tuple #[nmV 0 ⟨#[]⟩ 0 0 ⟨#[]⟩, .int .i64 3]) ∧ Below W.heap.size W w') := Lib.hid fun W hb => by
    have h := parse_any ⟨#[112, 97, 103, 101, 32, 51, 46, 49, 32, 54, 52]⟩ W (hE.below hb) (by decide)
    rw [show (ByteArray.mk #[112, 97, 103, 101, 32, 51, 46, 49, 32, 54, 52]).data.toList = [112, 97, 103, 101, 32, 51, 46, 49, 32, 54, 52] from rfl, parse64] at h
    exact h
  have HS : Hid (∀ W, Below w.heap.size w W → Calls Tryz.prog 27 #[nmV 8 ⟨#[51, 46, 49]⟩ 2 5 ⟨#[]⟩] W fun e w' => e = .returned (.string ⟨#[98, 108, 111, 99, 107, 32, 51, 46, 49, 35, 50, 32, 53]⟩) ∧ Below W.heap.size W w') := Lib.hid fun W hb => by
    have h := string_any 8 2 5 ⟨#[51, 46, 49]⟩ ⟨#[]⟩ W (hE.below hb) (by decide)
    rw [show (ByteArray.mk #[51, 46, 49]).data.toList = [51, 46, 49] from rfl, show (ByteArray.mk #[]).data.toList = [] from rfl, text8] at h
    exact h
  have HL : Hid (∀ W, Calls Tryz.prog 28 #[.agg #[.string ⟨#[]⟩, .int .i64 0]] W fun e w' => e = .returned (nmV 10 ⟨#[]⟩ 0 0 ⟨#[]⟩) ∧ Below W.heap.size W w') := Lib.hid fun W => ofListing_any 0 _ W
  have tok1 : True := trivial
  have tok2 : True := trivial
  clear hE
  go_enter Tryz.func7, Tryz.ntmps7
  go_wp2_with (first
    | (go_at_call 25; refine (HB.out _).mono ?_; rintro e V1 ⟨rfl, hb⟩; have HB1 := Lib.hid hb; clear hb)
    | (show wpList _ _ _ (⟨some 11, _, _, _, _, _⟩ :: _) _ _; have _t := tok1; refine wpl_gen (PA w V1.heap.size) (pa_new HB1.out) ?_; intro V hV; clear tok1; generalize V1.heap.size = g at hV ⊢; have HV := Lib.hid hV; clear hV HB1; have c0 := HV.out.1.cell 0; have c1 := HV.out.1.cell 1; have c2 := HV.out.1.cell 2; have c3 := HV.out.1.cell 3; have c4 := HV.out.1.cell 4)
    | (go_at_call 21; refine (HE.out _ HV.out.bel).mono ?_; rintro e V2 ⟨rfl, hb⟩; replace HV := Lib.hid (HV.out.under hb); clear hb c0 c1 c2 c3 c4)
    | (go_at_call 26; (with_reducible refine (HP1.out _ HV.out.bel).mono ?_); rintro e V3 ⟨rfl, hb⟩; replace HV := Lib.hid (HV.out.under hb); clear hb)
    | (show wpList _ _ _ (⟨some 20, _, _, _, _, _⟩ :: _) _ _; have _t := tok2; refine wpl_gen (PB2 w g V3.heap.size) (pb2_new HV.out) ?_; intro V4 hV; clear tok2; generalize V3.heap.size = f at hV ⊢; have HW := Lib.hid hV; clear hV HV)
    | (go_at_call 26; (with_reducible refine (HP2.out _ HW.out.bel).mono ?_); rintro e V5 ⟨rfl, hb⟩; replace HW := Lib.hid (HW.out.under hb); clear hb))
  refine cwp_gen (PB2 w g f) (HW.out.alloc _) ?_
  intro V6 hV
  clear HW
  have f0 : ∀ W, PB2 w g f W → W.cell? ⟨g, 0, none⟩ = some (.int .i64 8) := fun W h => h.1.1.cell 0
  have f1 : ∀ W, PB2 w g f W → W.cell? ⟨g, 1, none⟩ = some (.string ⟨#[51, 46, 49]⟩) := fun W h => h.1.1.cell 1
  have f2 : ∀ W, PB2 w g f W → W.cell? ⟨g, 2, none⟩ = some (.int .i64 2) := fun W h => h.1.1.cell 2
  have f3 : ∀ W, PB2 w g f W → W.cell? ⟨g, 3, none⟩ = some (.int .i64 5) := fun W h => h.1.1.cell 3
  have f4 : ∀ W, PB2 w g f W → W.cell? ⟨g, 4, none⟩ = some (.string ⟨#[]⟩) := fun W h => h.1.1.cell 4
  have k0 : ∀ W, PB2 w g f W → W.cell? ⟨f, 0, none⟩ = some (.int .i64 10) := fun W h => h.2.cell 0
  have k1 : ∀ W, PB2 w g f W → W.cell? ⟨f, 1, none⟩ = some (.string ⟨#[]⟩) := fun W h => h.2.cell 1
  have k2 : ∀ W, PB2 w g f W → W.cell? ⟨f, 2, none⟩ = some (.int .i64 0) := fun W h => h.2.cell 2
  have k3 : ∀ W, PB2 w g f W → W.cell? ⟨f, 3, none⟩ = some (.int .i64 0) := fun W h => h.2.cell 3
  have k4 : ∀ W, PB2 w g f W → W.cell? ⟨f, 4, none⟩ = some (.string ⟨#[]⟩) := fun W h => h.2.cell 4
  go_region_held3 (PB2 w g f) (first | assumption | exact PB2.drew (by assumption)) ((first | (go_at_call 27; refine (HS.out _ (PB2.bel (by assumption))).mono ?_; rintro e W1 ⟨rfl, hb⟩; have hS1 := PB2.under (by assumption) hb; clear hb) | (go_at_call 28; refine (HL.out _).mono ?_; rintro e W2 ⟨rfl, hb⟩; have hS2 := PB2.under (by assumption) hb; clear hb)))
  all_goals
    go_wp2
    go_ret
    exact ⟨rfl, PB2.bel (by assumption)⟩
end Go.Proofs.YtcdjmkfpclmbdaaGreatDoor
