/- The padded text and its blocks. Plain lemmas, no program. -/
import Derived.Test.YtifbeemcphndfaaDoorSBlk
set_option linter.unusedVariables false
namespace Go.Proofs.YtifbeemcphndfaaDoor
open Go.RowKit

def padN (n : Nat) : Nat := (119 - n % 64) % 64
def padS (m : List UInt8) : List UInt8 := m ++ [128] ++ zs (padN m.length) ++ lenBytes m.length
theorem zs_length (n : Nat) : (zs n).length = n := by simp [zs]
theorem zs_add (a b : Nat) : zs (a + b) = zs a ++ zs b := by simp [zs, List.replicate_append_replicate]
theorem zs_succ (a : Nat) : zs (a + 1) = zs a ++ [0] := by rw [zs_add]; rfl
theorem padS_length (m : List UInt8) : (padS m).length = m.length + 1 + padN m.length + 8 := by
  unfold padS; rw [List.length_append, List.length_append, List.length_append, zs_length, lenBytes_length]; rfl
theorem padN_lt (n : Nat) : padN n < 64 := by unfold padN; omega
theorem padN_56 (n : Nat) : (n + 1 + padN n) % 64 = 56 := by unfold padN; omega
theorem padN_least (n k : Nat) (h : k < padN n) : (n + 1 + k) % 64 ≠ 56 := by unfold padN at h; omega
theorem padS_64 (m : List UInt8) : (padS m).length % 64 = 0 := by rw [padS_length]; have := padN_56 m.length; omega
theorem stateAt_full (m x : List UInt8) (h : m.length % 64 + x.length = 64) : stateAt (m ++ x) ((m ++ x).length / 64) = compressS (stateAt m (m.length / 64)) (tailOf m ++ x) := by
  rw [(full_div m x h).1, stateAt, stateAt_append m x _ (by omega), blk_full m x h]
theorem padS_sum (m : List UInt8) : digest (stateAt (padS m) ((padS m).length / 64)) = sumS m := by
  unfold sumS finS
  rw [tailOf_length]
  by_cases h : 56 ≤ m.length % 64
  · rw [if_pos h]
    have e : padS m = (m ++ ([128] ++ zs (63 - m.length % 64))) ++ (zs 56 ++ lenBytes m.length) := by
      unfold padS
      rw [show padN m.length = (63 - m.length % 64) + 56 by unfold padN; omega, zs_add]
      simp only [List.append_assoc]
    have h1 : m.length % 64 + ([128] ++ zs (63 - m.length % 64)).length = 64 := by
      rw [List.length_append, zs_length]; show _ + (1 + _) = 64; omega
    have hf := full_div m _ h1
    have ht : tailOf (m ++ ([128] ++ zs (63 - m.length % 64))) = [] := List.eq_nil_of_length_eq_zero (by rw [tailOf_length, hf.2])
    rw [e, stateAt_full _ _ (by rw [hf.2, List.length_append, zs_length, lenBytes_length]), ht, stateAt_full m _ h1]
    simp only [List.append_assoc, List.nil_append]
  · rw [if_neg h]
    have e : padS m = m ++ ([128] ++ zs (55 - m.length % 64) ++ lenBytes m.length) := by
      unfold padS
      rw [show padN m.length = 55 - m.length % 64 by unfold padN; omega]
      simp only [List.append_assoc]
    rw [e, stateAt_full m _ (by rw [List.length_append, List.length_append, zs_length, lenBytes_length]; show _ + (1 + _ + 8) = 64; omega)]
    simp only [List.append_assoc]
/-- The piece of a list from 64 * i on. -/
theorem blk_length (m : List UInt8) (i : Nat) (h : 64 * (i + 1) ≤ m.length) : (blk m i).length = 64 := by unfold blk; rw [List.length_take, List.length_drop]; omega
theorem padS_nil_ne (m : List UInt8) : padS m ≠ padS (m ++ [0]) := by
  intro e
  have h := congrArg (fun l => l[m.length]?) e
  unfold padS at h
  simp only [List.append_assoc] at h
  rw [List.getElem?_append_right (Nat.le_refl _), List.getElem?_append_right (Nat.le_refl _)] at h
  simp at h
end Go.Proofs.YtifbeemcphndfaaDoor
