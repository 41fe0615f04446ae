/- lineage: the walks of isDigit, isOrdinal and partAt, and what they are as plain functions. -/
import Derived.Test.YtdfenaoddbdppaaDoorLib
import Derived.Test.YtdfenaoddbdppaaDoorChecked
set_option linter.unusedVariables false
namespace Go.Proofs.YtdfenaoddbdppaaDoor
open Go.RowKit

def isD (c : UInt8) : Bool := decide (48 ≤ c.toNat) && decide (c.toNat ≤ 57)
/-- The digits ahead, behind k digits that make n: the number and how many digits it has, or none if there are more than six. -/
def dig : List UInt8 → Nat → Nat → Option (Nat × Nat)
  | [], k, n => some (n, k)
  | c :: r, k, n => if isD c then (if k = 6 then none else dig r (k + 1) (10 * n + (c.toNat - 48))) else some (n, k)
/-- partAt: the offset, the ordinal, the error, and where it ends. -/
def partP (s : List UInt8) (at_ count : Nat) : Nat × Nat × Nat × Nat :=
  if count = 8 then (at_, 0, 9, at_) else match s.drop at_ with
  | [] => (at_, 0, 4, at_)
  | c :: r => if isD c then (if c = 48 then (at_, 0, 3, at_) else match dig (c :: r) 0 0 with
    | none => (at_, 0, 2, at_)
    | some (n, k) => (at_, n, 0, at_ + k)) else (at_, 0, 6, at_)

set_option maxRecDepth 100000 in
theorem isDigit_any (c : UInt8) (w : World) : Calls Tryd.prog 101 #[bv c] w fun e w' => e = .returned (.bool (isD c)) ∧ w = w' := by
  by_cases h1 : 48 ≤ c.toNat
  · have g1 : (48 : Int) ≤ (c.toNat : Int) := by omega
    by_cases h2 : c.toNat ≤ 57
    · have g2 : (c.toNat : Int) ≤ 57 := by omega
      have hr : isD c = true := by simp [isD, h1, h2]
      rw [hr]
      go_enter Tryd.func101, Tryd.ntmps101
      go_wp2
      go_ret
      exact ⟨rfl, rfl⟩
    · have g2 : ¬ (c.toNat : Int) ≤ 57 := by omega
      have hr : isD c = false := by simp [isD, h2]
      rw [hr]
      go_enter Tryd.func101, Tryd.ntmps101
      go_wp2
      go_ret
      exact ⟨rfl, rfl⟩
  · have g1 : ¬ (48 : Int) ≤ (c.toNat : Int) := by omega
    have hr : isD c = false := by simp [isD, h1]
    rw [hr]
    go_enter Tryd.func101, Tryd.ntmps101
    go_wp2
    go_ret
    exact ⟨rfl, rfl⟩

def isO (n : Int) : Bool := decide (1 ≤ n) && decide (n ≤ 999999)
set_option maxRecDepth 100000 in
theorem isOrdinal_any (n : Int) (w : World) : Calls Tryd.prog 43 #[.int .i64 n] w fun e w' => e = .returned (.bool (isO n)) ∧ w = w' := by
  by_cases h1 : 1 ≤ n
  · by_cases h2 : n ≤ 999999
    · have hr : isO n = true := by simp [isO, h1, h2]
      rw [hr]
      go_enter Tryd.func43, Tryd.ntmps43
      go_wp2
      go_ret
      exact ⟨rfl, rfl⟩
    · have hr : isO n = false := by simp [isO, h2]
      rw [hr]
      go_enter Tryd.func43, Tryd.ntmps43
      go_wp2
      go_ret
      exact ⟨rfl, rfl⟩
  · have hr : isO n = false := by simp [isO, h1]
    rw [hr]
    go_enter Tryd.func43, Tryd.ntmps43
    go_wp2
    go_ret
    exact ⟨rfl, rfl⟩
end Go.Proofs.YtdfenaoddbdppaaDoor
