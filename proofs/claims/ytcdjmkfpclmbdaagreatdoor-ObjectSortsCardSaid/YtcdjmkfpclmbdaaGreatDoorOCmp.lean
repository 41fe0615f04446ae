/- object: Compare, and the reference's. -/
import Derived.Test.YtcdjmkfpclmbdaaGreatDoorOOrd
import Derived.Test.YtcdjmkfpclmbdaaGreatDoorORead
set_option linter.unusedVariables false
namespace Go.Proofs.YtcdjmkfpclmbdaaGreatDoor
open Go.RowKit

def ordI (a b : Int) : Int := if a < b then -1 else if b < a then 1 else 0
theorem isNaNi_any (a : Int) (w : World) : Calls Tryz.prog 117 #[.int .i64 a] w fun e w' => e = .returned (.bool false) ∧ w' = w := by
  go_enter Tryz.func117, Tryz.ntmps117
  go_wp2
  go_ret
  exact ⟨rfl, rfl⟩
theorem isNaNs_any (S : ByteArray) (w : World) : Calls Tryz.prog 120 #[.string S] w fun e w' => e = .returned (.bool false) ∧ w' = w := by
  have h : (S.toList == S.toList) = true := by simp
  go_enter Tryz.func120, Tryz.ntmps120
  go_wp2
  go_ret
  exact ⟨rfl, rfl⟩
theorem intCmp_any (a b : Int) (w : World) : Calls Tryz.prog 78 #[.int .i64 a, .int .i64 b] w fun e w' => e = .returned (.int .i64 (ordI a b)) ∧ w' = w := by
  have HN : Hid (∀ (X : Int) W, Calls Tryz.prog 117 #[.int .i64 X] W fun e w' => e = .returned (.bool false) ∧ w' = W) := Lib.hid isNaNi_any
  unfold ordI
  by_cases h1 : a < b
  · rw [if_pos h1]
    go_enter Tryz.func78, Tryz.ntmps78
    go_wp2_with (go_at_call 117; refine (HN.out _ _).mono ?_; rintro e w' ⟨rfl, rfl⟩)
    go_ret
    exact ⟨rfl, rfl⟩
  · rw [if_neg h1]
    by_cases h2 : b < a
    · rw [if_pos h2]
      go_enter Tryz.func78, Tryz.ntmps78
      go_wp2_with (go_at_call 117; refine (HN.out _ _).mono ?_; rintro e w' ⟨rfl, rfl⟩)
      go_ret
      exact ⟨rfl, rfl⟩
    · rw [if_neg h2]
      go_enter Tryz.func78, Tryz.ntmps78
      go_wp2_with (go_at_call 117; refine (HN.out _ _).mono ?_; rintro e w' ⟨rfl, rfl⟩)
      go_ret
      exact ⟨rfl, rfl⟩
theorem refOrd_any (a b : Int) (w : World) : Calls Tryz.prog 81 #[.int .i64 a, .int .i64 b] w fun e w' => e = .returned (.int .i64 (ordI a b)) ∧ w' = w := by
  unfold ordI
  by_cases h1 : a < b
  · rw [if_pos h1]
    go_enter Tryz.func81, Tryz.ntmps81
    go_wp2
    go_ret
    exact ⟨rfl, rfl⟩
  · rw [if_neg h1]
    by_cases h2 : b < a
    · rw [if_pos h2]
      go_enter Tryz.func81, Tryz.ntmps81
      go_wp2
      go_ret
      exact ⟨rfl, rfl⟩
    · rw [if_neg h2]
      go_enter Tryz.func81, Tryz.ntmps81
      go_wp2
      go_ret
      exact ⟨rfl, rfl⟩
set_option maxHeartbeats 1000000 in
set_option maxRecDepth 100000 in
theorem strCmp_any (S T : ByteArray) (w : World) :
    Calls Tryz.prog 80 #[.string S, .string T] w fun e w' => e = .returned (.int .i64 (strC S.data.toList T.data.toList)) ∧ w' = w := by
  have e1 : (S.toList == T.toList) = decide (S.data.toList = T.data.toList) := by
    rw [toList_data, toList_data, Bool.eq_iff_iff]; simp
  obtain ⟨p, hp⟩ : ∃ p, p = Op.bytesLess S.toList T.toList := ⟨_, rfl⟩
  have hp2 : Op.bytesLess S.data.toList T.data.toList = p := by rw [hp, toList_data, toList_data]
  have HN : Hid (∀ (X : ByteArray) W, Calls Tryz.prog 120 #[.string X] W fun e w' => e = .returned (.bool false) ∧ w' = W) := Lib.hid isNaNs_any
  unfold strC
  rw [hp2]
  cases p with
  | true =>
    have HE := Lib.hid e1
    clear e1 hp2
    have q1 : Op.bytesLess S.toList T.toList = true := hp.symm
    clear hp
    go_enter Tryz.func80, Tryz.ntmps80
    go_wp2_with (go_at_call 120; refine (HN.out _ _).mono ?_; rintro e w' ⟨rfl, rfl⟩)
    go_ret
    exact ⟨rfl, rfl⟩
  | false =>
    have q1 : Op.bytesLess S.toList T.toList = false := hp.symm
    clear hp hp2
    by_cases he : S.data.toList = T.data.toList
    · have q2 : (S.toList == T.toList) = true := by rw [e1, decide_eq_true he]
      have hr : (if (false : Bool) = true then (-1 : Int) else if S.data.toList = T.data.toList then 0 else 1) = 0 := by rw [if_neg (by decide), if_pos he]
      rw [hr]
      clear he hr e1
      have hgt : ∀ W, (binOp BinOp.gtr 9 (.string S) (.string T)).run Tryz.prog W = .ok (.bool false) W := fun W => by simp [binOp, Op.stringOp, q1, q2]
      go_enter Tryz.func80, Tryz.ntmps80
      go_wp2_with (go_at_call 120; refine (HN.out _ _).mono ?_; rintro e w' ⟨rfl, rfl⟩)
      go_ret
      exact ⟨rfl, rfl⟩
    · have q2 : (S.toList == T.toList) = false := by rw [e1, decide_eq_false he]
      have hr : (if (false : Bool) = true then (-1 : Int) else if S.data.toList = T.data.toList then 0 else 1) = 1 := by rw [if_neg (by decide), if_neg he]
      rw [hr]
      clear he hr e1
      have hgt : ∀ W, (binOp BinOp.gtr 9 (.string S) (.string T)).run Tryz.prog W = .ok (.bool true) W := fun W => by simp [binOp, Op.stringOp, q1, q2]
      go_enter Tryz.func80, Tryz.ntmps80
      go_wp2_with (go_at_call 120; refine (HN.out _ _).mono ?_; rintro e w' ⟨rfl, rfl⟩)
      go_ret
      exact ⟨rfl, rfl⟩

/-- The order of names of objects. -/
def ordN (x y : Nm) : Int := if x.kind ≠ y.kind then ordI x.kind y.kind else if x.owner ≠ y.owner then compareB x.owner y.owner else if x.num ≠ y.num then ordI x.num y.num else if x.idx ≠ y.idx then ordI x.idx y.idx else strC x.text y.text
end Go.Proofs.YtcdjmkfpclmbdaaGreatDoor
