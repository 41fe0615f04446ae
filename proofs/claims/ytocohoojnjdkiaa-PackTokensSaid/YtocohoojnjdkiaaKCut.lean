/- pack: the law's cut. -/
import Derived.Test.YtocohoojnjdkiaaKCom
set_option linter.unusedVariables false
namespace Go.Proofs.Ytocohoojnjdkiaa
open Go.RowKit

set_option maxHeartbeats 1000000 in
set_option maxRecDepth 100000 in
theorem cut_any (A : Option Addr) (n c : Nat) (w : World) (hn : n ≤ c) (hA : 0 < n → ∃ b off, A = some ⟨b, off, none⟩) : Calls Try.prog 13 #[.slice A n c] w fun e w' => e = .returned (.slice A (min n 400) c) ∧ w' = w := by
  have h0 : (0 : Int) ≤ (n : Int) := by omega
  by_cases h : n ≤ 400
  · have h1 : (n : Int) ≤ 400 := by omega
    have h2 : (n : Int) ≤ (c : Int) := by omega
    rw [Nat.min_eq_left h]
    by_cases hp : 0 < n
    · obtain ⟨b, off, rfl⟩ := hA hp
      go_enter Try.func13, Try.ntmps13
      go_wp2
      go_ret
      exact ⟨rfl, rfl⟩
    · clear hA
      cases A with
      | none =>
        go_enter Try.func13, Try.ntmps13
        go_wp2
        go_ret
        exact ⟨rfl, rfl⟩
      | some a =>
        go_enter Try.func13, Try.ntmps13
        go_wp2
        go_ret
        exact ⟨rfl, rfl⟩
  · obtain ⟨b, off, rfl⟩ := hA (by omega)
    have h1 : (400 : Int) ≤ (n : Int) := by omega
    have h2 : (400 : Int) ≤ (c : Int) := by omega
    have h3 : ¬ (n : Int) ≤ 400 := by omega
    rw [Nat.min_eq_right (by omega)]
    go_enter Try.func13, Try.ntmps13
    go_wp2
    go_ret
    exact ⟨rfl, rfl⟩
end Go.Proofs.Ytocohoojnjdkiaa
