/- pack: reachable, of a dictionary within the window. -/
import Derived.Test.YtocohoojnjdkiaaKCut
set_option linter.unusedVariables false
namespace Go.Proofs.Ytocohoojnjdkiaa
open Go.RowKit

set_option maxHeartbeats 1000000 in
set_option maxRecDepth 100000 in
theorem reach_any (A : Option Addr) (n c : Nat) (w : World) (hn : n ≤ c) (h4 : n ≤ 4096) : Calls Try.prog 29 #[.slice A n c] w fun e w' => e = .returned (.slice A n c) ∧ w' = w := by
  have w1 : IntKind.i64.wrap ((n : Int) - 4096) = (n : Int) - 4096 := by rw [IntKind.wrap_i64]; omega
  have h0 : (n : Int) ≤ 4096 := by omega
  have h1 : (n : Int) - 4096 ≤ 0 := by omega
  have h2 : (n : Int) ≤ (c : Int) := by omega
  have h3 : (0 : Int) ≤ (n : Int) := by omega
  by_cases hx : n = 4096
  · subst hx
    cases A with
    | none =>
      go_enter Try.func29, Try.ntmps29
      go_wp2
      go_ret
      exact ⟨rfl, rfl⟩
    | some a =>
      go_enter Try.func29, Try.ntmps29
      go_wp2
      go_ret
      exact ⟨rfl, rfl⟩
  · have h5 : (n : Int) - 4096 < 0 := by omega
    have h6 : ¬ 0 ≤ (n : Int) - 4096 := by omega
    have h7 : (n : Int) < 4096 := by omega
    have h8 : ¬ (4096 : Int) ≤ (n : Int) := by omega
    cases A with
    | none =>
      go_enter Try.func29, Try.ntmps29
      go_wp2
      go_ret
      exact ⟨rfl, rfl⟩
    | some a =>
      go_enter Try.func29, Try.ntmps29
      go_wp2
      go_ret
      exact ⟨rfl, rfl⟩
end Go.Proofs.Ytocohoojnjdkiaa
