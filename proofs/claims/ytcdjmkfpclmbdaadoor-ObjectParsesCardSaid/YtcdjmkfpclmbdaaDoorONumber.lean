/- object: the reference's number. -/
import Derived.Test.YtcdjmkfpclmbdaaDoorOUntil
set_option linter.unusedVariables false
namespace Go.Proofs.YtcdjmkfpclmbdaaDoor
open Go.RowKit

theorem stepD_val {n : Nat} {c : UInt8} (h : isD c = true) : ((stepD n c : Nat) : Int) = 10 * (n : Int) + (c.toNat : Int) - 48 := by
  have hd : 48 ≤ c.toNat ∧ c.toNat ≤ 57 := by simpa [isD] using h
  unfold stepD; omega

set_option maxHeartbeats 2000000 in
set_option maxRecDepth 100000 in
theorem number_any (S : ByteArray) (w : World) (hS : S.size ≤ 1000000) :
    Calls Tryd.prog 47 #[.string S] w fun e w' => e = .returned (.int .i64 (refNum S.data.toList)) ∧ w = w' := by
  have HL : Hid (S.data.toList.length = S.size) := Lib.hid (by simp)
  obtain ⟨R, hR⟩ : ∃ R, R = refNum S.data.toList := ⟨_, rfl⟩
  have HR : Hid (R = refNumF S.data.toList 0) := Lib.hid hR
  rw [← hR]
  clear hR
  go_enter Tryd.func47, Tryd.ntmps47
  go_wp2
  go_loop [3, 4] (fun a i => ∃ k n : Nat, k ≤ S.size ∧ a = .int .i64 (n : Int) ∧ i = .int .i64 (k : Int) ∧ n ≤ 20000000000 ∧ R = refNumF (S.data.toList.drop k) n) (fun a i => S.size - (intOf i).toNat)
  case atStart => exact ⟨0, 0, by omega, rfl, rfl, by omega, by rw [HR.out]; rfl⟩
  case round =>
    obtain ⟨k, n, hk, rfl, rfl, hn, ha⟩ := hrel
    have HA := Lib.hid ha
    clear ha HR
    by_cases hlt : k < S.size
    · have h3 : (k : Int) < (S.size : Int) := by omega
      have HK : Hid (S.data.toList.drop k = S[k] :: S.data.toList.drop (k + 1)) := Lib.hid (by rw [List.drop_eq_getElem_cons (by simpa using hlt)]; rfl)
      by_cases hd : isD S[k] = true
      · have hd0 : 48 ≤ S[k].toNat ∧ S[k].toNat ≤ 57 := by simpa [isD] using hd
        have g1 : ¬ (S[k].toNat : Int) < 48 := by omega
        have g2 : ¬ (57 : Int) < (S[k].toNat : Int) := by omega
        by_cases hb : n ≤ 1073741824
        · have g3 : ¬ (1073741824 : Int) < (n : Int) := by omega
          have HD := Lib.hid hd
          have HV := Lib.hid (stepD_val (n := n) hd)
          have HB := Lib.hid (show stepD n S[k] ≤ 20000000000 by unfold stepD; omega)
          clear hd
          go_wp2
          go_round
          case rel => exact ⟨k + 1, stepD n S[k], by omega, by rw [HV.out] <;> rfl, by go_num, HB.out, by rw [HA.out, HK.out, refNumF, if_pos ⟨HD.out, hb⟩]⟩
          case measure => simp [intOf] <;> omega
        · have g3 : (1073741824 : Int) < (n : Int) := by omega
          have HF : Hid (R = -1) := Lib.hid (by rw [HA.out, HK.out, refNumF, if_neg (fun h => hb h.2)])
          clear hd hb
          go_wp2
          go_ret
          exact ⟨by rw [HF.out] <;> rfl, rfl⟩
      · have HF : Hid (R = -1) := Lib.hid (by rw [HA.out, HK.out, refNumF, if_neg (fun h => hd h.1)])
        have hd0 : S[k].toNat < 48 ∨ 57 < S[k].toNat := by
          have : ¬ (48 ≤ S[k].toNat ∧ S[k].toNat ≤ 57) := fun h => hd (by simpa [isD] using h)
          omega
        clear hd
        rcases hd0 with h | h
        · have g1 : (S[k].toNat : Int) < 48 := by omega
          go_wp2
          go_ret
          exact ⟨by rw [HF.out] <;> rfl, rfl⟩
        · have g1 : ¬ (S[k].toNat : Int) < 48 := by omega
          have g2 : (57 : Int) < (S[k].toNat : Int) := by omega
          go_wp2
          go_ret
          exact ⟨by rw [HF.out] <;> rfl, rfl⟩
    · have h3 : ¬ (k : Int) < (S.size : Int) := by omega
      have HF : Hid (R = (n : Int)) := Lib.hid (by rw [HA.out, List.drop_eq_nil_of_le (by rw [HL.out]; omega)]; rfl)
      go_wp2
      go_ret
      exact ⟨by rw [HF.out] <;> rfl, rfl⟩
end Go.Proofs.YtcdjmkfpclmbdaaDoor
