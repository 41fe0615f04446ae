/- object: what is said of the order of names (from lineage's XLOrder). Plain lemmas, no program. -/
import Derived.Test.YtcdjmkfpclmbdaaGreatDoorOLe
set_option linter.unusedVariables false
namespace Go.Proofs.YtcdjmkfpclmbdaaGreatDoor
open Go.RowKit

theorem valid_tx {s : List UInt8} (h : validB s = true) : tx (parseL s).1 = s := (parseL_text (by simpa [validB] using h)).2.2


theorem cmpI_range : ∀ x y : List Nat, cmpI x y = -1 ∨ cmpI x y = 0 ∨ cmpI x y = 1
  | [], [] => .inr (.inl rfl)
  | [], _ :: _ => .inl rfl
  | _ :: _, [] => .inr (.inr rfl)
  | a :: x, b :: y => by
    rw [cmpI]
    split
    · exact .inl rfl
    · split
      · exact .inr (.inr rfl)
      · exact cmpI_range x y
theorem cmpI_neg : ∀ x y : List Nat, cmpI y x = - cmpI x y
  | [], [] => rfl
  | [], _ :: _ => rfl
  | _ :: _, [] => rfl
  | a :: x, b :: y => by
    rw [cmpI, cmpI]
    by_cases h1 : a < b
    · rw [if_pos h1, if_neg (by omega), if_pos h1]; rfl
    · by_cases h2 : b < a
      · rw [if_pos h2, if_neg h1, if_pos h2]
      · rw [if_neg h2, if_neg h1, if_neg h1, if_neg h2, cmpI_neg x y]
theorem cmpI_zero : ∀ x y : List Nat, cmpI x y = 0 ↔ x = y
  | [], [] => by simp [cmpI]
  | [], _ :: _ => by simp [cmpI]
  | _ :: _, [] => by simp [cmpI]
  | a :: x, b :: y => by
    rw [cmpI]
    by_cases h1 : a < b
    · rw [if_pos h1]
      constructor
      · intro h; cases h
      · intro h; injection h with h _; omega
    · by_cases h2 : b < a
      · rw [if_neg h1, if_pos h2]
        constructor
        · intro h; cases h
        · intro h; injection h with h _; omega
      · rw [if_neg h1, if_neg h2, cmpI_zero x y]
        constructor
        · intro h; rw [h, show a = b by omega]
        · intro h; injection h
theorem cmpI_trans : ∀ x y z : List Nat, cmpI x y ≤ 0 → cmpI y z ≤ 0 → cmpI x z ≤ 0
  | [], _, [], _, _ => by simp [cmpI]
  | [], _, _ :: _, _, _ => by simp [cmpI]
  | _ :: _, [], _, h, _ => by simp [cmpI] at h
  | _ :: _, _ :: _, [], _, h => by simp [cmpI] at h
  | a :: x, b :: y, c :: z, h1, h2 => by
    rw [cmpI] at h1 h2 ⊢
    by_cases q1 : a < b
    · by_cases q2 : b < c
      · rw [if_pos (by omega)]; omega
      · rw [if_neg q2] at h2
        by_cases q3 : c < b
        · rw [if_pos q3] at h2; omega
        · rw [if_pos (by omega)]; omega
    · rw [if_neg q1] at h1
      by_cases q4 : b < a
      · rw [if_pos q4] at h1; omega
      · rw [if_neg q4] at h1
        obtain rfl : a = b := by omega
        by_cases q2 : a < c
        · rw [if_pos q2]; omega
        · rw [if_neg q2] at h2 ⊢
          by_cases q3 : c < a
          · rw [if_pos q3] at h2; omega
          · rw [if_neg q3] at h2 ⊢
            exact cmpI_trans x y z h1 h2
theorem cmpI_prefix : ∀ x y : List Nat, x <+: y → cmpI x y ≤ 0
  | [], [], _ => by simp [cmpI]
  | [], _ :: _, _ => by simp [cmpI]
  | _ :: _, [], h => by simp at h
  | a :: x, b :: y, h => by
    rw [List.cons_prefix_cons] at h
    obtain ⟨rfl, h⟩ := h
    rw [cmpI, if_neg (by omega), if_neg (by omega)]
    exact cmpI_prefix x y h
theorem cmpI_between : ∀ x y z : List Nat, cmpI x y ≤ 0 → cmpI y z ≤ 0 → x.take (sharedN x z) <+: y
  | [], _, _, _, _ => by simp
  | _ :: _, _, [], _, _ => by simp [sharedN]
  | _ :: _, [], _ :: _, h, _ => by simp [cmpI] at h
  | a :: x, b :: y, c :: z, h1, h2 => by
    rw [sharedN]
    by_cases h : a = c
    · subst h
      rw [if_pos rfl, List.take_succ_cons]
      rw [cmpI] at h1 h2
      by_cases q1 : a < b
      · rw [if_neg (by omega), if_pos q1] at h2; omega
      · rw [if_neg q1] at h1
        by_cases q2 : b < a
        · rw [if_pos q2] at h1; omega
        · obtain rfl : a = b := by omega
          rw [if_neg q1] at h1 h2
          rw [if_neg q1] at h2
          rw [List.cons_prefix_cons]
          exact ⟨rfl, cmpI_between x y z h1 h2⟩
    · rw [if_neg h]; simp
theorem strC_cmpI : ∀ s t : List UInt8, strC s t = cmpI (s.map UInt8.toNat) (t.map UInt8.toNat)
  | [], [] => rfl
  | [], _ :: _ => rfl
  | _ :: _, [] => by simp [strC, Op.bytesLess, cmpI]
  | a :: s, b :: t => by
    rw [List.map_cons, List.map_cons, cmpI, ← strC_cmpI s t]
    unfold strC
    rw [Op.bytesLess]
    by_cases h1 : a < b
    · rw [if_pos (by simp [h1]), if_pos (UInt8.lt_iff_toNat_lt.1 h1)]
    · have h1' : ¬ a.toNat < b.toNat := fun h => h1 (UInt8.lt_iff_toNat_lt.2 h)
      rw [if_neg h1']
      by_cases h2 : a = b
      · subst h2
        rw [if_neg h1']
        simp
      · have h2' : b.toNat < a.toNat := by
          have : a.toNat ≠ b.toNat := fun h => h2 (UInt8.toNat_inj.1 h)
          omega
        rw [if_pos h2', if_neg (by simp [h1, h2]), if_neg (by intro e; injection e with e _; exact h2 e)]
theorem map_toNat_inj {s t : List UInt8} (h : s.map UInt8.toNat = t.map UInt8.toNat) : s = t := by
  induction s generalizing t with
  | nil => cases t with
    | nil => rfl
    | cons b t => cases h
  | cons a s ih => cases t with
    | nil => cases h
    | cons b t =>
      simp only [List.map_cons, List.cons.injEq] at h
      rw [UInt8.toNat_inj.1 h.1, ih h.2]

theorem cmpB_range (s t : List UInt8) : -1 ≤ compareB s t ∧ compareB s t ≤ 1 := by
  unfold compareB
  split
  · split
    · rcases cmpI_range (parseL s).1 (parseL t).1 with h | h | h <;> rw [h] <;> omega
    · omega
  · split
    · omega
    · rw [strC_cmpI]
      rcases cmpI_range (s.map UInt8.toNat) (t.map UInt8.toNat) with h | h | h <;> rw [h] <;> omega
theorem cmpB_neg (s t : List UInt8) : compareB t s = - compareB s t := by
  unfold compareB
  by_cases hs : validB s = true <;> by_cases ht : validB t = true <;> simp only [hs, ht, if_true, if_false, Bool.false_eq_true]
  · exact cmpI_neg _ _
  · rfl
  · rw [strC_cmpI, strC_cmpI]; exact cmpI_neg _ _
theorem cmpB_zero (s t : List UInt8) : compareB s t = 0 ↔ s = t := by
  unfold compareB
  by_cases hs : validB s = true <;> by_cases ht : validB t = true <;> simp only [hs, ht, if_true, if_false, Bool.false_eq_true]
  · rw [cmpI_zero]
    constructor
    · intro h; rw [← valid_tx hs, ← valid_tx ht, h]
    · rintro rfl; rfl
  · constructor
    · intro h; cases h
    · rintro rfl; exact absurd hs ht
  · constructor
    · intro h; cases h
    · rintro rfl; exact absurd ht hs
  · rw [strC_cmpI, cmpI_zero]
    exact ⟨map_toNat_inj, fun h => by rw [h]⟩
theorem cmpB_trans {s t u : List UInt8} (h1 : compareB s t ≤ 0) (h2 : compareB t u ≤ 0) : compareB s u ≤ 0 := by
  unfold compareB at *
  by_cases hs : validB s = true <;> by_cases ht : validB t = true <;> by_cases hu : validB u = true <;> simp only [hs, ht, hu, if_true, if_false, Bool.false_eq_true] at h1 h2 ⊢
  · exact cmpI_trans _ _ _ h1 h2
  · omega
  · omega
  · omega
  · omega
  · omega
  · omega
  · rw [strC_cmpI] at *; exact cmpI_trans _ _ _ h1 h2
end Go.Proofs.YtcdjmkfpclmbdaaGreatDoor
