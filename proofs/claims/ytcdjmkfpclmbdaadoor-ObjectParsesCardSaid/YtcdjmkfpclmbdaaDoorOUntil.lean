/- object: the reference's until. -/
import Derived.Test.YtcdjmkfpclmbdaaDoorOChecks
import Derived.Test.YtcdjmkfpclmbdaaDoorOCut
set_option linter.unusedVariables false
namespace Go.Proofs.YtcdjmkfpclmbdaaDoor
open Go.RowKit

def pAB (a b : UInt8) (c : UInt8) : Bool := c != a && c != b
theorem tw_go {a b : UInt8} {l : List UInt8} {m k : Nat} {c : UInt8} (h : (l.drop m).takeWhile (pAB a b) = (l.drop m).take (k - m) ++ (l.drop k).takeWhile (pAB a b)) (hm : m ≤ k) (hc : l[k]? = some c) (hp : pAB a b c = true) :
    (l.drop m).takeWhile (pAB a b) = (l.drop m).take (k + 1 - m) ++ (l.drop (k + 1)).takeWhile (pAB a b) := by
  obtain ⟨hk, hv⟩ := List.getElem?_eq_some_iff.1 hc
  rw [h, List.drop_eq_getElem_cons hk, hv, List.takeWhile_cons, hp]
  have e : (l.drop m).take (k + 1 - m) = (l.drop m).take (k - m) ++ [c] := by
    rw [show k + 1 - m = (k - m) + 1 by omega, List.take_add_one, List.getElem?_drop, show m + (k - m) = k by omega, hc]
    rfl
  rw [e]; simp
theorem tw_stop {a b : UInt8} {l : List UInt8} {m k : Nat} {c : UInt8} (h : (l.drop m).takeWhile (pAB a b) = (l.drop m).take (k - m) ++ (l.drop k).takeWhile (pAB a b)) (hc : l[k]? = some c) (hp : pAB a b c = false) :
    (l.drop m).takeWhile (pAB a b) = (l.drop m).take (k - m) := by
  obtain ⟨hk, hv⟩ := List.getElem?_eq_some_iff.1 hc
  rw [h, List.drop_eq_getElem_cons hk, hv, List.takeWhile_cons, hp]; simp
theorem tw_end {a b : UInt8} {l : List UInt8} {m : Nat} (h : (l.drop m).takeWhile (pAB a b) = (l.drop m).take (l.length - m) ++ (l.drop l.length).takeWhile (pAB a b)) :
    (l.drop m).takeWhile (pAB a b) = (l.drop m).take (l.length - m) := by
  rw [h, List.drop_length]; simp
theorem ext_mid (S : ByteArray) (m k : Nat) : S.extract m k = sv ((S.data.toList.drop m).take (k - m)) := by
  apply ByteArray.ext
  apply Array.ext'
  simp [sv, List.extract_eq_take_drop]

set_option maxHeartbeats 2000000 in
set_option maxRecDepth 100000 in
theorem until_any (S : ByteArray) (m : Nat) (a b : UInt8) (w : World) (hS : S.size ≤ 1000000) (hm : m ≤ S.size) :
    Calls Tryd.prog 46 #[.string S, .int .i64 (m : Int), bv a, bv b] w fun e w' => ∃ k, m ≤ k ∧ k ≤ S.size ∧ e = .returned (.tuple #[.string (sv ((S.data.toList.drop m).takeWhile (pAB a b))), .int .i64 ((min (k + 1) S.size : Nat) : Int)]) ∧ ((S.data.toList.drop m).takeWhile (pAB a b)).length = k - m ∧ w = w' := by
  have HL : Hid (S.data.toList.length = S.size) := Lib.hid (by simp)
  have gm : min (m : Int) (S.size : Int) = (m : Int) := by omega
  go_enter Tryd.func46, Tryd.ntmps46
  go_wp2
  go_loop [10] (fun i => ∃ k : Nat, m ≤ k ∧ k ≤ S.size ∧ i = .int .i64 (k : Int) ∧ (S.data.toList.drop m).takeWhile (pAB a b) = (S.data.toList.drop m).take (k - m) ++ (S.data.toList.drop k).takeWhile (pAB a b)) (fun i => S.size - (intOf i).toNat)
  case atStart => exact ⟨m, Nat.le_refl _, hm, rfl, by simp⟩
  case round =>
    obtain ⟨k, hmk, hk, rfl, ha⟩ := hrel
    have HA := Lib.hid ha
    clear ha
    have gs : min ((k : Int) + 1) (S.size : Int) = ((min (k + 1) S.size : Nat) : Int) := by omega
    by_cases hlt : k < S.size
    · have h3 : (k : Int) < (S.size : Int) := by omega
      have HK := Lib.hid (str_at hlt)
      by_cases hp : pAB a b S[k] = true
      · have q1 : ((S[k].toNat : Int) != (a.toNat : Int)) = true := by
          unfold pAB at hp; simp only [Bool.and_eq_true, bne_iff_ne] at hp ⊢
          intro e; exact hp.1 (UInt8.toNat_inj.1 (by omega))
        have q2 : ((S[k].toNat : Int) != (b.toNat : Int)) = true := by
          unfold pAB at hp; simp only [Bool.and_eq_true, bne_iff_ne] at hp ⊢
          intro e; exact hp.2 (UInt8.toNat_inj.1 (by omega))
        have HP := Lib.hid hp
        clear hp gs
        go_wp2
        go_round
        case rel => exact ⟨k + 1, by omega, by omega, by go_num, tw_go HA.out hmk HK.out HP.out⟩
        case measure => simp [intOf] <;> omega
      · have hpf : pAB a b S[k] = false := by simpa using hp
        have HT := Lib.hid (tw_stop HA.out HK.out hpf)
        have HE := Lib.hid (ext_mid S m k)
        have hor : ((S[k].toNat : Int) != (a.toNat : Int)) = false ∨ (((S[k].toNat : Int) != (a.toNat : Int)) = true ∧ ((S[k].toNat : Int) != (b.toNat : Int)) = false) := by
          unfold pAB at hpf
          by_cases ea : S[k] = a
          · left; rw [ea]; simp
          · right
            have eb : S[k] = b := by
              by_cases eb : S[k] = b
              · exact eb
              · rw [show (S[k] != a) = true by simpa using ea, show (S[k] != b) = true by simpa using eb] at hpf; cases hpf
            refine ⟨?_, by rw [eb]; simp⟩
            rw [bne_iff_ne]; intro e; exact ea (UInt8.toNat_inj.1 (by omega))
        clear hp hpf
        rcases hor with q1 | ⟨q1, q2⟩
        all_goals
          go_wp2
          refine bodyPost_ret (results_tmp2' rfl _ _ _) rfl ?_
          refine ⟨k, hmk, hk, ?_, ?_, rfl⟩
          · rw [HT.out, ← HE.out] <;> rfl
          · rw [HT.out, List.length_take, List.length_drop, HL.out]; omega
    · have h3 : ¬ (k : Int) < (S.size : Int) := by omega
      obtain rfl : k = S.size := by omega
      have HT := Lib.hid (show (S.data.toList.drop m).takeWhile (pAB a b) = (S.data.toList.drop m).take (S.size - m) from by
        have h := HA.out
        rw [← HL.out] at h ⊢
        exact tw_end h)
      have HE := Lib.hid (ext_mid S m S.size)
      go_wp2
      refine bodyPost_ret (results_tmp2' rfl _ _ _) rfl ?_
      refine ⟨S.size, hmk, hk, ?_, ?_, rfl⟩
      · rw [HT.out, ← HE.out, show min (S.size + 1) S.size = S.size by omega] <;> rfl
      · rw [HT.out, List.length_take, List.length_drop, HL.out]; omega
end Go.Proofs.YtcdjmkfpclmbdaaDoor
