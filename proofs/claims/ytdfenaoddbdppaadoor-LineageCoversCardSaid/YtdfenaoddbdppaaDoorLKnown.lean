/- lineage: the walk of the law's known. -/
import Derived.Test.YtdfenaoddbdppaaDoorLRCompare
set_option linter.unusedVariables false
namespace Go.Proofs.YtdfenaoddbdppaaDoor
open Go.RowKit

theorem dec1 : dec 1 = [49] := by rw [dec_small (by omega)]; rfl
theorem dec2 : dec 2 = [50] := by rw [dec_small (by omega)]; rfl
theorem dec3 : dec 3 = [51] := by rw [dec_small (by omega)]; rfl
theorem mk31 : mkL [3, 1] = (⟨#[51, 46, 49]⟩, 0) := by
  have h : tx ([3, 1] : List Nat) = [51, 46, 49] := by rw [tx_cons, tx_one, dec3, dec1]; rfl
  show (if 8 < 2 then _ else if _ then ((⟨(tx [3, 1]).toArray⟩ : ByteArray), 0) else _) = _
  rw [if_neg (by decide), if_pos (by decide), h]
theorem child31 : childL [51, 46, 49] 2 = (⟨#[51, 46, 49, 46, 50]⟩, 0) := by
  have h : tx ([3, 1, 2] : List Nat) = [51, 46, 49, 46, 50] := by rw [tx_cons, tx_cons, tx_one, dec3, dec1, dec2]; rfl
  unfold childL
  rw [if_pos (by decide), if_pos (by decide), show (parseL [51, 46, 49]).1 = [3, 1] by decide]
  show (if 8 < 3 then _ else if _ then ((⟨(tx [3, 1, 2]).toArray⟩ : ByteArray), 0) else _) = _
  rw [if_neg (by decide), if_pos (by decide), h]
theorem common31 : tx ([3, 1, 2].take (sharedN [3, 1, 2] [3, 10])) = [51] := by
  rw [show [3, 1, 2].take (sharedN [3, 1, 2] [3, 10]) = [3] by decide, tx_one, dec3]
theorem p1 : parseL [51, 46, 46, 49] = ([], 2, 6) := by decide
theorem p2 : parseL [51, 46, 48, 49] = ([], 2, 3) := by decide
theorem p3 : (parseL [51, 46, 49, 46, 50]).1 = [3, 1, 2] := by decide
theorem p4 : (parseL [51, 46, 49, 48]).1 = [3, 10] := by decide
theorem c5 : compareB [51, 46, 50] [51, 46, 49, 48] = -1 := by decide

set_option maxHeartbeats 4000000 in
set_option maxRecDepth 100000 in
theorem known_any (w : World) (hP : Pow w) : Calls Tryd.prog 14 #[] w fun e w' => e = .returned (.bool true) ∧ Below w.heap.size w w' := by
  have HPW := Lib.hid (fun W (hb : Below w.heap.size w W) => hP.below hb hP.lt)
  have HM : Hid (∀ t, Calls Tryd.prog 12 #[.slice (some ⟨w.heap.size, 0, none⟩) 2 2] (w.alloc (.cells #[.int .i64 3, .int .i64 1] t)) fun e w' => e = .returned (.tuple #[.string ⟨#[51, 46, 49]⟩, .int .i64 0]) ∧ Below w.heap.size w w') := Lib.hid fun t => by
    have h1 : RZ (w.alloc (.cells #[.int .i64 3, .int .i64 1] t)) (w.heap.size + 1) (some ⟨w.heap.size, 0, none⟩) [3, 1] := fun _ => ⟨_, 0, rfl, by omega, fun j s hj => by
      rw [World.cell?_alloc_at _ _ _ _ rfl]
      match j, hj with
      | 0, hj => simp at hj; subst hj; rfl
      | 1, hj => simp at hj; subst hj; rfl⟩
    have h2 := make_any _ [3, 1] 2 (w.heap.size + 1) _ h1 (by simp) (hP.below ((Below.refl _ w).alloc (Nat.le_refl _) _) hP.lt)
    rw [mk31] at h2
    refine h2.mono ?_
    rintro e w' ⟨h3, h4⟩
    exact ⟨h3, ((Below.refl _ w).alloc (Nat.le_refl _) _).trans (h4.mono (by simp))⟩
  have HC : Hid (∀ W, Below w.heap.size w W → Calls Tryd.prog 22 #[.string ⟨#[51, 46, 49]⟩, .int .i64 2] W fun e w' => e = .returned (.tuple #[.string ⟨#[51, 46, 49, 46, 50]⟩, .int .i64 0]) ∧ Below w.heap.size w w') := Lib.hid fun W hb => by
    have h2 := child_any ⟨#[51, 46, 49]⟩ 2 W (by decide) (HPW.out W hb)
    rw [show (ByteArray.mk #[51, 46, 49]).data.toList = [51, 46, 49] from rfl, child31] at h2
    exact h2.mono fun e w' h => ⟨h.1, hb.trans (h.2.mono hb.size)⟩
  have HP1 : Hid (∀ W, Below w.heap.size w W → Calls Tryd.prog 15 #[.string ⟨#[51, 46, 46, 49]⟩] W fun e w' => e = .returned (.tuple #[.string ⟨#[]⟩, .int .i64 2, .int .i64 6]) ∧ Below w.heap.size w w') := Lib.hid fun W hb => by
    have h2 := parse_any ⟨#[51, 46, 46, 49]⟩ W (by decide) ([], 2, 6) p1.symm
    exact h2.mono fun e w' h => ⟨h.1, hb.trans (h.2.mono hb.size)⟩
  have HP2 : Hid (∀ W, Below w.heap.size w W → Calls Tryd.prog 15 #[.string ⟨#[51, 46, 48, 49]⟩] W fun e w' => e = .returned (.tuple #[.string ⟨#[]⟩, .int .i64 2, .int .i64 3]) ∧ Below w.heap.size w w') := Lib.hid fun W hb => by
    have h2 := parse_any ⟨#[51, 46, 48, 49]⟩ W (by decide) ([], 2, 3) p2.symm
    exact h2.mono fun e w' h => ⟨h.1, hb.trans (h.2.mono hb.size)⟩
  have HCO : Hid (∀ W, Below w.heap.size w W → Calls Tryd.prog 29 #[.string ⟨#[51, 46, 49, 46, 50]⟩, .string ⟨#[51, 46, 49, 48]⟩] W fun e w' => e = .returned (.string ⟨#[51]⟩) ∧ Below w.heap.size w w') := Lib.hid fun W hb => by
    have h2 := common_any ⟨#[51, 46, 49, 46, 50]⟩ ⟨#[51, 46, 49, 48]⟩ W (by decide) (by decide) (HPW.out W hb) [3, 1, 2] [3, 10] p3.symm p4.symm
    rw [common31] at h2
    exact h2.mono fun e w' h => ⟨h.1, hb.trans (h.2.mono hb.size)⟩
  have HCM : Hid (∀ W, Below w.heap.size w W → Calls Tryd.prog 31 #[.string ⟨#[51, 46, 50]⟩, .string ⟨#[51, 46, 49, 48]⟩] W fun e w' => e = .returned (.int .i64 (-1)) ∧ Below w.heap.size w w') := Lib.hid fun W hb => by
    have h2 := compare_any ⟨#[51, 46, 50]⟩ ⟨#[51, 46, 49, 48]⟩ W (by decide) (by decide)
    rw [show (ByteArray.mk #[51, 46, 50]).data.toList = [51, 46, 50] from rfl, show (ByteArray.mk #[51, 46, 49, 48]).data.toList = [51, 46, 49, 48] from rfl, c5] at h2
    exact h2.mono fun e w' h => ⟨h.1, hb.trans (h.2.mono hb.size)⟩
  clear hP
  go_enter Tryd.func14, Tryd.ntmps14
  go_wp2_with (first
    | (go_at_call 12; refine (HM.out _).mono ?_; rintro e W1 ⟨rfl, hb1⟩; have HB1 := Lib.hid hb1; clear hb1 HM)
    | (go_at_call 22; refine (HC.out _ HB1.out).mono ?_; rintro e W2 ⟨rfl, hb2⟩; have HB2 := Lib.hid hb2; clear hb2 HC)
    | (go_at_call 15; (with_reducible refine (HP1.out _ HB2.out).mono ?_); rintro e W3 ⟨rfl, hb3⟩; have HB3 := Lib.hid hb3; clear hb3 HP1)
    | (go_at_call 15; (with_reducible refine (HP2.out _ HB3.out).mono ?_); rintro e W4 ⟨rfl, hb4⟩; have HB4 := Lib.hid hb4; clear hb4 HP2)
    | (go_at_call 29; refine (HCO.out _ HB4.out).mono ?_; rintro e W5 ⟨rfl, hb5⟩; have HB5 := Lib.hid hb5; clear hb5 HCO)
    | (go_at_call 31; refine (HCM.out _ HB5.out).mono ?_; rintro e W6 ⟨rfl, hb6⟩; have HB6 := Lib.hid hb6; clear hb6 HCM))
  go_ret
  exact ⟨rfl, HB6.out⟩
end Go.Proofs.YtdfenaoddbdppaaDoor
