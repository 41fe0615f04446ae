/- object: '==' of two names. -/
import Derived.Test.YtcdjmkfpclmbdaaGreatDoorOCmpB
set_option linter.unusedVariables false
namespace Go.Proofs.YtcdjmkfpclmbdaaGreatDoor
open Go.RowKit

set_option maxHeartbeats 2000000 in
set_option maxRecDepth 100000 in
theorem eq_nm (K : Int) (O : ByteArray) (n i : Int) (T : ByteArray) (L : Int) (P : ByteArray) (m j : Int) (Q : ByteArray) (W : World) :
    (binOp .eql 28 (nmV K O n i T) (nmV L P m j Q)).run Tryz.prog W = .ok (.bool (decide (K = L ∧ O = P ∧ n = m ∧ i = j ∧ T = Q))) W := by
  go_simp
  by_cases h2 : O = P <;> by_cases h5 : T = Q
  · subst h2 h5; repeat' split
    all_goals first | contradiction | simp_all
  · have g5 : ¬ T.toList = Q.toList := fun e => h5 (ba_toList e)
    subst h2; repeat' split
    all_goals first | contradiction | simp_all
  · have g2 : ¬ O.toList = P.toList := fun e => h2 (ba_toList e)
    subst h5; repeat' split
    all_goals first | contradiction | simp_all
  · have g2 : ¬ O.toList = P.toList := fun e => h2 (ba_toList e)
    have g5 : ¬ T.toList = Q.toList := fun e => h5 (ba_toList e)
    repeat' split
    all_goals first | contradiction | simp_all
end Go.Proofs.YtcdjmkfpclmbdaaGreatDoor
