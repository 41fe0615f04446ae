/- pack: Bound, and the reference's. -/
import Derived.Test.YtocohoojnjdkiaaChecked
import Derived.Test.YtocohoojnjdkiaaKMath
import Derived.Deep.Cut
set_option linter.unusedVariables false
namespace Go.Proofs.Ytocohoojnjdkiaa
open Go.RowKit

theorem ops_atL {l : List Oper} {i : Nat} {o : Oper} (h : l[i]? = some o) : (List.toArray l)[i]? = some o := by rw [List.getElem?_toArray]; exact h
theorem results_tmp2' {fn : Func} {t u : Tmp} (h : fn.results = #[.tmp t, .tmp u]) (tmps : Array Value) (P : Program) (w : World) :
    (results fn tmps).run P w = .ok (.tuple #[tmps.getD t undef, tmps.getD u undef]) w := by
  simp [results, h]
set_option maxHeartbeats 1000000 in
set_option maxRecDepth 100000 in
theorem bound_ok (n : Nat) (w : World) (hn : n ≤ 1048576) : Calls Try.prog 25 #[.int .i64 (n : Int)] w fun e w' => e = .returned (.tuple #[.int .i64 ((n : Int) + ((n : Int) + 127) / 128), .int .i64 0]) ∧ w' = w := by
  have h1 : ¬ (n : Int) < 0 := by omega
  have h2 : ¬ (n : Int) > 1048576 := by omega
  have w1 : IntKind.i64.wrap ((n : Int) + 128) = (n : Int) + 128 := by rw [IntKind.wrap_i64]; omega
  have w2 : IntKind.i64.wrap ((n : Int) + 128 - 1) = (n : Int) + 127 := by rw [IntKind.wrap_i64]; omega
  have w3 : IntKind.i64.wrap ((n : Int) + ((n : Int) + 127) / 128) = (n : Int) + ((n : Int) + 127) / 128 := by rw [IntKind.wrap_i64]; omega
  have w4 : Int.tdiv ((n : Int) + 127) 128 = ((n : Int) + 127) / 128 := Int.tdiv_eq_ediv_of_nonneg (by omega)
  go_enter Try.func25, Try.ntmps25
  go_wp2
  refine bodyPost_ret (results_tmp2' rfl _ _ _) rfl ?_
  exact ⟨rfl, rfl⟩
set_option maxRecDepth 100000 in
theorem bound_bad (n : Int) (w : World) (hn : n < 0 ∨ 1048576 < n) : Calls Try.prog 25 #[.int .i64 n] w fun e w' => e = .returned (.tuple #[.int .i64 0, .int .i64 2]) ∧ w' = w := by
  by_cases h1 : n < 0
  · go_enter Try.func25, Try.ntmps25
    go_wp2
    refine bodyPost_ret (results_tmp2' rfl _ _ _) rfl ?_
    exact ⟨rfl, rfl⟩
  · have h2 : n > 1048576 := by omega
    go_enter Try.func25, Try.ntmps25
    go_wp2
    refine bodyPost_ret (results_tmp2' rfl _ _ _) rfl ?_
    exact ⟨rfl, rfl⟩
set_option maxHeartbeats 1000000 in
set_option maxRecDepth 100000 in
theorem rbound_ok (n : Nat) (w : World) (hn : n ≤ 1048576) : Calls Try.prog 26 #[.int .i64 (n : Int)] w fun e w' => e = .returned (.int .i64 ((n : Int) + ((n : Int) + 127) / 128)) ∧ w' = w := by
  have w1 : IntKind.i64.wrap ((n : Int) + 128) = (n : Int) + 128 := by rw [IntKind.wrap_i64]; omega
  have w2 : IntKind.i64.wrap ((n : Int) + 128 - 1) = (n : Int) + 127 := by rw [IntKind.wrap_i64]; omega
  have w3 : IntKind.i64.wrap ((n : Int) + ((n : Int) + 127) / 128) = (n : Int) + ((n : Int) + 127) / 128 := by rw [IntKind.wrap_i64]; omega
  have w4 : Int.tdiv ((n : Int) + 127) 128 = ((n : Int) + 127) / 128 := Int.tdiv_eq_ediv_of_nonneg (by omega)
  go_enter Try.func26, Try.ntmps26
  go_wp2
  go_ret
  exact ⟨rfl, rfl⟩
end Go.Proofs.Ytocohoojnjdkiaa
