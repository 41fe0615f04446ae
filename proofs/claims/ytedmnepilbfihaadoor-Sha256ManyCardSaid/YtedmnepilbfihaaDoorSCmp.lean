/- The order of digests and of their texts. Plain lemmas, no program. -/
import Derived.Test.YtedmnepilbfihaaDoorSText
import Derived.Lib.Bytealg
set_option linter.unusedVariables false
namespace Go.Proofs.YtedmnepilbfihaaDoor
open Go.RowKit

theorem hexD_fin : ∀ n m : Fin 16, decide (hexD n.1 < hexD m.1) = decide (n.1 < m.1) ∧ decide (hexD n.1 = hexD m.1) = decide (n.1 = m.1) := by decide
theorem hexD_lt {n m : Nat} (hn : n < 16) (hm : m < 16) : hexD n < hexD m ↔ n < m := by
  have := (hexD_fin ⟨n, hn⟩ ⟨m, hm⟩).1
  simpa using this
theorem hexD_eq {n m : Nat} (hn : n < 16) (hm : m < 16) : hexD n = hexD m ↔ n = m := by
  have := (hexD_fin ⟨n, hn⟩ ⟨m, hm⟩).2
  simpa using this
theorem hexOf_cons (a : UInt8) (r : List UInt8) : hexOf (a :: r) = hexD (a.toNat / 16) :: hexD (a.toNat % 16) :: hexOf r := rfl
theorem hi_lt (a : UInt8) : a.toNat / 16 < 16 := by have := a.toNat_lt; omega
theorem lo_lt (a : UInt8) : a.toNat % 16 < 16 := by omega
theorem hex_same : ∀ x y : List UInt8, hexOf x = hexOf y ↔ x = y
  | [], [] => by simp [hexOf]
  | [], b :: y => by rw [hexOf_cons]; simp [hexOf]
  | a :: x, [] => by rw [hexOf_cons]; simp [hexOf]
  | a :: x, b :: y => by
    rw [hexOf_cons, hexOf_cons, List.cons.injEq, List.cons.injEq, List.cons.injEq, hex_same x y, hexD_eq (hi_lt a) (hi_lt b), hexD_eq (lo_lt a) (lo_lt b)]
    constructor
    · rintro ⟨h1, h2, h3⟩; exact ⟨UInt8.toNat_inj.1 (by omega), h3⟩
    · rintro ⟨rfl, h3⟩; exact ⟨rfl, rfl, h3⟩
theorem hex_less : ∀ x y : List UInt8, Op.bytesLess (hexOf x) (hexOf y) = decide (Lib.compareBytes x y = -1)
  | [], [] => by simp [hexOf, Op.bytesLess, Lib.compareBytes]
  | [], b :: y => by rw [hexOf_cons]; simp [hexOf, Op.bytesLess, Lib.compareBytes]
  | a :: x, [] => by rw [hexOf_cons]; simp [hexOf, Op.bytesLess, Lib.compareBytes]
  | a :: x, b :: y => by
    rw [hexOf_cons, hexOf_cons, Op.bytesLess, Op.bytesLess, hex_less x y, Lib.compareBytes]
    by_cases h1 : a < b
    · rw [if_pos h1]
      have h2 : a.toNat < b.toNat := UInt8.lt_iff_toNat_lt.1 h1
      by_cases h3 : a.toNat / 16 < b.toNat / 16
      · simp [(hexD_lt (hi_lt a) (hi_lt b)).2 h3]
      · have h4 : a.toNat / 16 = b.toNat / 16 := by omega
        have h5 : a.toNat % 16 < b.toNat % 16 := by omega
        rw [h4]
        simp [(hexD_lt (lo_lt a) (lo_lt b)).2 h5]
    · rw [if_neg h1]
      by_cases h2 : b < a
      · rw [if_pos h2]
        have h3 : b.toNat < a.toNat := UInt8.lt_iff_toNat_lt.1 h2
        by_cases h4 : b.toNat / 16 < a.toNat / 16
        · have e1 : ¬ hexD (a.toNat / 16) < hexD (b.toNat / 16) := by rw [hexD_lt (hi_lt a) (hi_lt b)]; omega
          have e2 : ¬ hexD (a.toNat / 16) = hexD (b.toNat / 16) := by rw [hexD_eq (hi_lt a) (hi_lt b)]; omega
          simp [e1, e2]
        · have h5 : a.toNat / 16 = b.toNat / 16 := by omega
          have e1 : ¬ hexD (a.toNat % 16) < hexD (b.toNat % 16) := by rw [hexD_lt (lo_lt a) (lo_lt b)]; omega
          have e2 : ¬ hexD (a.toNat % 16) = hexD (b.toNat % 16) := by rw [hexD_eq (lo_lt a) (lo_lt b)]; omega
          rw [h5]
          simp [e1, e2]
      · rw [if_neg h2]
        have e : a = b := UInt8.toNat_inj.1 (by rw [UInt8.lt_iff_toNat_lt] at h1 h2; omega)
        subst e
        simp
theorem cmp_swap : ∀ x y : List UInt8, Lib.compareBytes y x = - Lib.compareBytes x y
  | [], [] => rfl
  | [], _ :: _ => rfl
  | _ :: _, [] => rfl
  | a :: x, b :: y => by
    rw [Lib.compareBytes, Lib.compareBytes, cmp_swap x y]
    by_cases h1 : a < b
    · have h2 : ¬ b < a := by rw [UInt8.lt_iff_toNat_lt] at h1 ⊢; omega
      simp [h1, h2]
    · by_cases h2 : b < a
      · simp [h1, h2]
      · simp [h1, h2]
theorem cmp_three : ∀ x y : List UInt8, Lib.compareBytes x y = -1 ∨ Lib.compareBytes x y = 0 ∨ Lib.compareBytes x y = 1
  | [], [] => .inr (.inl rfl)
  | [], _ :: _ => .inl rfl
  | _ :: _, [] => .inr (.inr rfl)
  | a :: x, b :: y => by
    rw [Lib.compareBytes]
    split
    · exact .inl rfl
    · split
      · exact .inr (.inr rfl)
      · exact cmp_three x y
theorem cmp_zero : ∀ x y : List UInt8, Lib.compareBytes x y = 0 ↔ x = y
  | [], [] => by simp [Lib.compareBytes]
  | [], _ :: _ => by simp [Lib.compareBytes]
  | _ :: _, [] => by simp [Lib.compareBytes]
  | a :: x, b :: y => by
    rw [Lib.compareBytes]
    by_cases h1 : a < b
    · rw [if_pos h1]
      have : a ≠ b := by rintro rfl; rw [UInt8.lt_iff_toNat_lt] at h1; omega
      simp [this]
    · rw [if_neg h1]
      by_cases h2 : b < a
      · rw [if_pos h2]
        have : a ≠ b := by rintro rfl; rw [UInt8.lt_iff_toNat_lt] at h2; omega
        simp [this]
      · rw [if_neg h2]
        have e : a = b := UInt8.toNat_inj.1 (by rw [UInt8.lt_iff_toNat_lt] at h1 h2; omega)
        rw [cmp_zero x y, e]; simp
end Go.Proofs.YtedmnepilbfihaaDoor
