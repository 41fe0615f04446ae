/- pack: the reference's best. -/
import Derived.Test.YtocohoojnjdkiaaKLen
set_option linter.unusedVariables false
namespace Go.Proofs.Ytocohoojnjdkiaa
open Go.RowKit

/-- How far a match at a place reaches with a distance. -/
noncomputable def mat (t : List UInt8) (at_ d : Nat) : Nat := com t (at_ - d) at_ (min 131 (t.length - at_))
set_option maxHeartbeats 1000000 in
set_option maxRecDepth 100000 in
theorem rbest_any (A : Option Addr) (t : List UInt8) (c : Nat) (w : World) (hr : RB w w.heap.size A t) (hl : t.length ≤ 4000) (at_ : Nat) (ha : at_ < t.length) :
    Calls Try.prog 36 #[.slice A t.length c, .int .i64 (at_ : Int)] w fun e w' => ∃ n d : Nat, e = .returned (.tuple #[.int .i64 (n : Int), .int .i64 (d : Int)]) ∧ Best (mat t at_) at_ n d ∧ Below w.heap.size w w' := by
  have HL : Hid (∀ W d, Below w.heap.size w W → 1 ≤ d → d ≤ at_ → Calls Try.prog 46 #[.slice A t.length c, .int .i64 (at_ : Int), .int .i64 (d : Int)] W fun e w' => e = .returned (.int .i64 (mat t at_ d : Int)) ∧ Below W.heap.size W w') := Lib.hid fun W d hb h1 h2 => rlength_any A t c W ((hr.below hb).more hb.size) hl at_ d ⟨h1, h2⟩ ha
  obtain ⟨n, hn⟩ : ∃ n, t.length = n := ⟨_, rfl⟩
  rw [hn] at hl ha HL ⊢
  clear hn hr
  go_enter Try.func36, Try.ntmps36
  go_wp2
  go_loopw [4, 5, 6] (fun u v i wr => ∃ k m d : Nat, i = .int .i64 ((k : Int) + 1) ∧ k ≤ at_ ∧ u = .int .i64 (m : Int) ∧ v = .int .i64 (d : Int) ∧ Best (mat t at_) k m d ∧ Below w.heap.size w wr) (fun _ _ i _ => 5000 - (intOf i).toNat)
  case atStart => exact ⟨0, 0, 0, rfl, by omega, rfl, rfl, Best.zero _, Below.refl _ _⟩
  case round =>
    obtain ⟨k, m, d, rfl, hk, rfl, rfl, hB, hW⟩ := hrel
    have HB := Lib.hid hB
    have HW := Lib.hid hW
    clear hB hW
    have w3 : IntKind.i64.wrap ((k : Int) + 1 + 1) = (k : Int) + 1 + 1 := by rw [IntKind.wrap_i64]; omega
    by_cases h2 : k + 1 ≤ at_
    · have g1 : (k : Int) + 1 ≤ 4096 := by omega
      have g2 : (k : Int) + 1 ≤ (at_ : Int) := by omega
      have d1 : decide ((k : Int) + 1 ≤ 4096) = true := decide_eq_true g1
      have d2 : decide ((k : Int) + 1 ≤ (at_ : Int)) = true := decide_eq_true g2
      obtain ⟨x, hx⟩ : ∃ x, mat t at_ (k + 1) = x := ⟨_, rfl⟩
      have HC : Hid (∀ W, Below w.heap.size w W → Calls Try.prog 46 #[.slice A n c, .int .i64 (at_ : Int), .int .i64 ((k : Int) + 1)] W fun e w' => e = .returned (.int .i64 (x : Int)) ∧ Below W.heap.size W w') := Lib.hid fun W hb => by
        have h := HL.out W (k + 1) hb (by omega) h2
        rw [hx] at h
        exact h
      have HX := Lib.hid hx
      clear hx
      by_cases hg : m < x
      · have g3 : (x : Int) > (m : Int) := by omega
        go_wp2_with (go_at_call 46; refine (HC.out _ HW.out).mono ?_; rintro e V ⟨rfl, hb2⟩; have HW2 := Lib.hid (HW.out.trans (hb2.mono HW.out.size)); clear hb2)
        go_roundw
        case rel => exact ⟨k + 1, x, k + 1, by go_num, h2, rfl, by go_num, by rw [← HX.out]; exact HB.out.more (by rw [HX.out]; exact hg), HW2.out⟩
        case measure => simp [intOf] <;> omega
      · have g3 : ¬ (x : Int) > (m : Int) := by omega
        go_wp2_with (go_at_call 46; refine (HC.out _ HW.out).mono ?_; rintro e V ⟨rfl, hb2⟩; have HW2 := Lib.hid (HW.out.trans (hb2.mono HW.out.size)); clear hb2)
        go_roundw
        case rel => exact ⟨k + 1, m, d, by go_num, h2, rfl, rfl, HB.out.keep (by rw [HX.out]; exact hg), HW2.out⟩
        case measure => simp [intOf] <;> omega
    · have g1 : (k : Int) + 1 ≤ 4096 := by omega
      have g2 : ¬ (k : Int) + 1 ≤ (at_ : Int) := by omega
      have d1 : decide ((k : Int) + 1 ≤ 4096) = true := decide_eq_true g1
      have d2 : decide ((k : Int) + 1 ≤ (at_ : Int)) = false := decide_eq_false g2
      have HKK := Lib.hid (show k = at_ by omega)
      go_wp2
      refine bodyPost_ret (results_tmp2' rfl _ _ _) rfl ?_
      exact ⟨m, d, rfl, by have h := HB.out; rwa [HKK.out] at h, HW.out⟩
end Go.Proofs.Ytocohoojnjdkiaa
