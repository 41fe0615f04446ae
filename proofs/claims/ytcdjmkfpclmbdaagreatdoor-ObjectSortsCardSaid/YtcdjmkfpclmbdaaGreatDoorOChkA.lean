/- object: the walks of upTo, Word, hasOthers. -/
import Derived.Test.YtcdjmkfpclmbdaaGreatDoorOEnv
set_option linter.unusedVariables false
namespace Go.Proofs.YtcdjmkfpclmbdaaGreatDoor
open Go.RowKit

set_option maxRecDepth 100000 in
theorem upTo_any (n : Int) (m : Nat) (w : World) : Calls Tryz.prog 85 #[.int .i64 n, .int .i64 (m : Int)] w fun e w' => e = .returned (.bool (upB n m)) ∧ w = w' := by
  by_cases h1 : 0 ≤ n
  · by_cases h2 : n ≤ (m : Int)
    · have hr : upB n m = true := by simp [upB, h1, h2]
      rw [hr]
      go_enter Tryz.func85, Tryz.ntmps85
      go_wp2
      go_ret
      exact ⟨rfl, rfl⟩
    · have hr : upB n m = false := by simp [upB, h2]
      rw [hr]
      go_enter Tryz.func85, Tryz.ntmps85
      go_wp2
      go_ret
      exact ⟨rfl, rfl⟩
  · have hr : upB n m = false := by simp [upB, h1]
    rw [hr]
    go_enter Tryz.func85, Tryz.ntmps85
    go_wp2
    go_ret
    exact ⟨rfl, rfl⟩

theorem wordB_len {s : List UInt8} (h : ¬ (1 ≤ s.length ∧ s.length ≤ 32)) : wordB s = false := by
  unfold wordB
  by_cases h1 : 1 ≤ s.length
  · have h2 : ¬ s.length ≤ 32 := fun h2 => h ⟨h1, h2⟩
    simp [h2]
  · simp [h1]
theorem wordB_bad {s : List UInt8} {k : Nat} {c : UInt8} (hk : s[k]? = some c) (hc : wordC c = false) : wordB s = false := by
  unfold wordB
  have : s.all wordC = false := by
    rw [List.all_eq_false]
    exact ⟨c, List.mem_of_getElem? hk, by simp [hc]⟩
  simp [this]
theorem wordB_all {s : List UInt8} (h1 : 1 ≤ s.length) (h2 : s.length ≤ 32) (h : s.all wordC = true) : wordB s = true := by
  unfold wordB; simp [h1, h2, h]
theorem str_at {s : ByteArray} {k : Nat} (h : k < s.size) : s.data.toList[k]? = some s[k] := by
  rw [List.getElem?_eq_getElem (by simpa using h)]; rfl
theorem all_take {s : List UInt8} {k : Nat} {c : UInt8} {p : UInt8 → Bool} (h : (s.take k).all p = true) (hk : s[k]? = some c) (hc : p c = true) : (s.take (k + 1)).all p = true := by
  rw [List.take_add_one, hk, List.all_append, h]; simp [hc]

set_option maxHeartbeats 1000000 in
set_option maxRecDepth 100000 in
theorem word_any (S : ByteArray) (w : World) : Calls Tryz.prog 86 #[.string S] w fun e w' => e = .returned (.bool (wordB S.data.toList)) ∧ w = w' := by
  have hlen : S.data.toList.length = S.size := by simp
  by_cases h1 : S.size < 1
  · have g1 : (S.size : Int) < 1 := by omega
    rw [wordB_len (by rw [hlen]; omega)]
    clear hlen h1
    go_enter Tryz.func86, Tryz.ntmps86
    go_wp2
    go_ret
    exact ⟨rfl, rfl⟩
  · by_cases h2 : 32 < S.size
    · have g1 : ¬ (S.size : Int) < 1 := by omega
      have g2 : (32 : Int) < (S.size : Int) := by omega
      rw [wordB_len (by rw [hlen]; omega)]
      clear hlen h1
      go_enter Tryz.func86, Tryz.ntmps86
      go_wp2
      go_ret
      exact ⟨rfl, rfl⟩
    · have g1 : ¬ (S.size : Int) < 1 := by omega
      have g2 : ¬ (32 : Int) < (S.size : Int) := by omega
      have HL := Lib.hid hlen
      clear hlen
      go_enter Tryz.func86, Tryz.ntmps86
      go_wp2
      go_loop [3, 14] (fun _ i => ∃ k : Nat, k ≤ S.size ∧ i = .int .i64 (k : Int) ∧ (S.data.toList.take k).all wordC = true) (fun _ i => S.size - (intOf i).toNat)
      case atStart => exact ⟨0, by omega, rfl, by simp⟩
      case round =>
        obtain ⟨k, hk, rfl, ha⟩ := hrel
        have HA := Lib.hid ha
        clear ha
        by_cases hlt : k < S.size
        · have h3 : (k : Int) < (S.size : Int) := by omega
          have HK := Lib.hid (str_at hlt)
          by_cases h47 : ((S[k].toNat : Int) == 47) = true
          · have HB : Hid (wordB S.data.toList = false) := Lib.hid (wordB_bad HK.out (by
              simp only [beq_iff_eq] at h47
              unfold wordC; simp only [Bool.and_eq_false_iff, decide_eq_false_iff_not]; omega))
            go_wp2
            all_goals (go_ret; exact ⟨by rw [HB.out] <;> rfl, rfl⟩)
          · have h48 : ((S[k].toNat : Int) == 47) = false := by simpa using h47
            have HN : Hid (S[k].toNat ≠ 47) := Lib.hid (by simp only [beq_eq_false_iff_ne] at h48; omega)
            clear h47
            go_wp2
            all_goals first
              | (go_round
                 case rel => exact ⟨k + 1, by omega, by go_num, all_take HA.out HK.out (by have := HN.out; unfold wordC; simp only [Bool.and_eq_true, decide_eq_true_eq]; omega)⟩
                 case measure => simp [intOf] <;> omega)
              | (go_ret; refine ⟨?_, rfl⟩; rw [wordB_bad HK.out (by unfold wordC; simp only [Bool.and_eq_false_iff, decide_eq_false_iff_not]; omega)] <;> rfl)
        · have h3 : ¬ (k : Int) < (S.size : Int) := by omega
          have hkS : k = S.size := by omega
          have HW : Hid (wordB S.data.toList = true) := Lib.hid (wordB_all (by rw [HL.out]; omega) (by rw [HL.out]; omega) (by
            have := HA.out
            rw [hkS, ← HL.out, List.take_length] at this
            exact this))
          clear hkS
          go_wp2
          go_ret
          exact ⟨by rw [HW.out] <;> rfl, rfl⟩

set_option maxHeartbeats 1000000 in
set_option maxRecDepth 100000 in
theorem hasOthers_any (b1 b2 b3 b4 : Bool) (K n i m : Int) (O T U : ByteArray) (w : World) :
    Calls Tryz.prog 83 #[.agg #[.int .i64 K, .string O, .int .i64 n, .int .i64 i, .string T], .agg #[.string U, .bool b1, .bool b2, .bool b3, .bool b4, .int .i64 m]] w fun e w' =>
      e = .returned (.bool ((!b1 && !O.data.toList.isEmpty) || (!b2 && n != 0) || (!b3 && i != 0) || (!b4 && !T.data.toList.isEmpty))) ∧ Below w.heap.size w w' := by
  cases b1 <;> cases b2 <;> cases b3 <;> cases b4
  all_goals
    go_enter Tryz.func83, Tryz.ntmps83
    go_wp2
  all_goals
    go_ret
    refine ⟨?_, ((Below.refl _ _).alloc (Nat.le_refl _) _).alloc (by simp) _⟩
    simp_all [toList_data]
end Go.Proofs.YtcdjmkfpclmbdaaGreatDoor
