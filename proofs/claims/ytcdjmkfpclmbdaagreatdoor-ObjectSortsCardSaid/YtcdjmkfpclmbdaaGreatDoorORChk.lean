/- object: the walks of the reference's Owned, Numbered, Texted, Most, Word, Birth, Check. -/
import Derived.Test.YtcdjmkfpclmbdaaGreatDoorOKnown
import Derived.Deep.DeepCutAuto
set_option linter.unusedVariables false
namespace Go.Proofs.YtcdjmkfpclmbdaaGreatDoor
open Go.RowKit

def ownI (k : Int) : Bool := (decide (1 ≤ k) && decide (k ≤ 12)) || k == 18 || k == 19
def numI (k : Int) : Bool := (decide (7 ≤ k) && decide (k ≤ 13)) || k == 16 || k == 18
def txtI (k : Int) : Bool := k == 9 || k == 14 || k == 17
def mostI (k : Int) : Int := if k = 3 ∨ k = 8 then 63 else if k = 18 then 1073741824 else -1
theorem ownI_nat : ∀ k < 21, ownI ((k : Nat) : Int) = ownN k := by decide
theorem numI_nat : ∀ k < 21, numI ((k : Nat) : Int) = numN k := by decide
theorem txtI_nat : ∀ k < 21, txtI ((k : Nat) : Int) = txtN k := by decide
theorem mostI_nat : ∀ k < 21, max (mostI ((k : Nat) : Int)) 0 = (mostN k : Int) ∧ (idxN k = decide (0 ≤ mostI ((k : Nat) : Int))) := by decide
set_option maxRecDepth 100000 in
theorem owned_any (k : Int) (w : World) : Calls Tryz.prog 10 #[.int .i64 k] w fun e w' => e = .returned (.bool (ownI k)) ∧ w = w' := by
  go_enter Tryz.func10, Tryz.ntmps10
  go_wp2
  all_goals (go_ret; refine ⟨?_, rfl⟩; unfold ownI; first | (simp_all; done) | (have hh : ¬ (1 : Int) ≤ k := by omega); simp [hh])
set_option maxRecDepth 100000 in
theorem numbered_any (k : Int) (w : World) : Calls Tryz.prog 11 #[.int .i64 k] w fun e w' => e = .returned (.bool (numI k)) ∧ w = w' := by
  go_enter Tryz.func11, Tryz.ntmps11
  go_wp2
  all_goals (go_ret; refine ⟨?_, rfl⟩; unfold numI; first | (simp_all; done) | (have hh : ¬ (7 : Int) ≤ k := by omega); simp [hh])
set_option maxRecDepth 100000 in
theorem texted_any (k : Int) (w : World) : Calls Tryz.prog 13 #[.int .i64 k] w fun e w' => e = .returned (.bool (txtI k)) ∧ w = w' := by
  go_enter Tryz.func13, Tryz.ntmps13
  go_wp2
  all_goals (go_ret; refine ⟨?_, rfl⟩; unfold txtI; simp_all)
set_option maxRecDepth 100000 in
theorem most_any (k : Int) (w : World) : Calls Tryz.prog 12 #[.int .i64 k] w fun e w' => e = .returned (.int .i64 (mostI k)) ∧ w = w' := by
  unfold mostI
  by_cases h3 : k = 3
  · subst h3
    go_enter Tryz.func12, Tryz.ntmps12
    go_wp2
    go_ret
    exact ⟨rfl, rfl⟩
  · by_cases h8 : k = 8
    · subst h8
      go_enter Tryz.func12, Tryz.ntmps12
      go_wp2
      go_ret
      exact ⟨rfl, rfl⟩
    · by_cases h18 : k = 18
      · subst h18
        go_enter Tryz.func12, Tryz.ntmps12
        go_wp2
        go_ret
        exact ⟨rfl, rfl⟩
      · have g3 : (k == 3) = false := by simpa using h3
        have g8 : (k == 8) = false := by simpa using h8
        have g18 : (k == 18) = false := by simpa using h18
        rw [if_neg (by omega), if_neg h18]
        clear h3 h8 h18
        go_enter Tryz.func12, Tryz.ntmps12
        go_wp2
        go_ret
        exact ⟨rfl, rfl⟩

set_option maxHeartbeats 1000000 in
set_option maxRecDepth 100000 in
theorem refWord_any (S : ByteArray) (w : World) (hS : S.size ≤ maxLen) : Calls Tryz.prog 92 #[.string S] w fun e w' => e = .returned (.bool (wordB S.data.toList)) ∧ w = w' := by
  unfold maxLen at hS
  have HL : Hid (S.data.toList.length = S.size) := Lib.hid (by simp)
  go_enter Tryz.func92, Tryz.ntmps92
  go_wp2
  go_loop [3] (fun i => ∃ k : Nat, k ≤ S.size ∧ i = .int .i64 (k : Int) ∧ (S.data.toList.take k).all wordC = true) (fun i => S.size - (intOf i).toNat)
  case atStart => exact ⟨0, by omega, rfl, by simp⟩
  case round =>
    obtain ⟨k, hk, rfl, ha⟩ := hrel
    have HA := Lib.hid ha
    clear ha
    by_cases hlt : k < S.size
    · have h3 : (k : Int) < (S.size : Int) := by omega
      have HK := Lib.hid (str_at hlt)
      by_cases h47 : ((S[k].toNat : Int) == 47) = true
      · have HB : Hid (wordB S.data.toList = false) := Lib.hid (wordB_bad HK.out (by
          simp only [beq_iff_eq] at h47
          unfold wordC; simp only [Bool.and_eq_false_iff, decide_eq_false_iff_not]; omega))
        go_wp2
        all_goals (go_ret; exact ⟨by rw [HB.out] <;> rfl, rfl⟩)
      · have h48 : ((S[k].toNat : Int) == 47) = false := by simpa using h47
        have HN : Hid (S[k].toNat ≠ 47) := Lib.hid (by simp only [beq_eq_false_iff_ne] at h48; omega)
        clear h47
        go_wp2
        all_goals first
          | (go_round
             case rel => exact ⟨k + 1, by omega, by go_num, all_take HA.out HK.out (by have := HN.out; unfold wordC; simp only [Bool.and_eq_true, decide_eq_true_eq]; omega)⟩
             case measure => simp [intOf] <;> omega)
          | (go_ret; refine ⟨?_, rfl⟩; rw [wordB_bad HK.out (by unfold wordC; simp only [Bool.and_eq_false_iff, decide_eq_false_iff_not]; omega)] <;> rfl)
    · have h3 : ¬ (k : Int) < (S.size : Int) := by omega
      have hkS : k = S.size := by omega
      have HW : Hid (S.data.toList.all wordC = true) := Lib.hid (by
        have := HA.out
        rw [hkS, ← HL.out, List.take_length] at this
        exact this)
      clear hkS
      by_cases l1 : 1 ≤ S.size
      · by_cases l2 : S.size ≤ 32
        · have g1 : (1 : Int) ≤ (S.size : Int) := by omega
          have g2 : (S.size : Int) ≤ 32 := by omega
          have HR : Hid (wordB S.data.toList = true) := Lib.hid (wordB_all (by rw [HL.out]; omega) (by rw [HL.out]; omega) HW.out)
          go_wp2
          go_ret
          exact ⟨by rw [HR.out] <;> rfl, rfl⟩
        · have g1 : (1 : Int) ≤ (S.size : Int) := by omega
          have g2 : ¬ (S.size : Int) ≤ 32 := by omega
          have HR : Hid (wordB S.data.toList = false) := Lib.hid (wordB_len (by rw [HL.out]; omega))
          go_wp2
          go_ret
          exact ⟨by rw [HR.out] <;> rfl, rfl⟩
      · have g1 : ¬ (1 : Int) ≤ (S.size : Int) := by omega
        have HR : Hid (wordB S.data.toList = false) := Lib.hid (wordB_len (by rw [HL.out]; omega))
        go_wp2
        go_ret
        exact ⟨by rw [HR.out] <;> rfl, rfl⟩

end Go.Proofs.YtcdjmkfpclmbdaaGreatDoor
