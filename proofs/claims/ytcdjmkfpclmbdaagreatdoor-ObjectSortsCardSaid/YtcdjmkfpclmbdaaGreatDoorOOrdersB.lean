/- object: ObjectOrders, from the order's own laws. -/
import Derived.Test.YtcdjmkfpclmbdaaGreatDoorOCmpB
set_option linter.unusedVariables false
namespace Go.Proofs.YtcdjmkfpclmbdaaGreatDoor
open Go.RowKit

structure TO {α : Type} (f : α → α → Int) : Prop where
  neg : ∀ x y, f y x = - f x y
  range : ∀ x y, -1 ≤ f x y ∧ f x y ≤ 1
  trans : ∀ x y z, f x y ≤ 0 → f y z ≤ 0 → f x z ≤ 0
def lexO {α : Type} (f g : α → α → Int) : α → α → Int := fun x y => if f x y ≠ 0 then f x y else g x y
theorem TO.lex {α : Type} {f g : α → α → Int} (hf : TO f) (hg : TO g) : TO (lexO f g) where
  neg x y := by
    unfold lexO
    have := hf.neg x y
    by_cases h : f x y = 0
    · rw [if_neg (by omega), if_neg (by omega)]; exact hg.neg x y
    · rw [if_pos (by omega), if_pos (by omega)]; exact this
  range x y := by
    unfold lexO
    split
    · exact hf.range x y
    · exact hg.range x y
  trans x y z h1 h2 := by
    have a1 : f x y ≤ 0 := by unfold lexO at h1; split at h1 <;> omega
    have a2 : f y z ≤ 0 := by unfold lexO at h2; split at h2 <;> omega
    have a3 := hf.trans x y z a1 a2
    unfold lexO
    by_cases h : f x z = 0
    · rw [if_neg (by omega)]
      have n1 := hf.neg x z
      have n2 := hf.neg x y
      have n3 := hf.neg y z
      have b1 := hf.trans z x y (by omega) a1
      have b2 := hf.trans y z x a2 (by omega)
      have e1 : f x y = 0 := by omega
      have e2 : f y z = 0 := by omega
      unfold lexO at h1 h2
      rw [if_neg (by omega)] at h1 h2
      exact hg.trans x y z h1 h2
    · rw [if_pos h]; exact a3
theorem lexO_zero {α : Type} (f g : α → α → Int) (x y : α) : lexO f g x y = 0 ↔ f x y = 0 ∧ g x y = 0 := by
  unfold lexO
  split
  · constructor
    · intro h; contradiction
    · rintro ⟨h, _⟩; contradiction
  · constructor
    · intro h; exact ⟨by omega, h⟩
    · exact fun h => h.2
theorem ordI_zero (a b : Int) : ordI a b = 0 ↔ a = b := by
  unfold ordI
  split
  · constructor
    · intro h; cases h
    · intro h; omega
  · split
    · constructor
      · intro h; cases h
      · intro h; omega
    · constructor
      · intro _; omega
      · intro _; rfl
theorem ordI_TO {α : Type} (p : α → Int) : TO (fun x y => ordI (p x) (p y)) where
  neg x y := by show ordI (p y) (p x) = - ordI (p x) (p y); unfold ordI; split <;> split <;> first | omega | (split <;> omega)
  range x y := by show -1 ≤ ordI (p x) (p y) ∧ ordI (p x) (p y) ≤ 1; unfold ordI; split <;> first | omega | (split <;> omega)
  trans x y z h1 h2 := by
    have g1 : ¬ p y < p x := fun h => by
      have h1 : ordI (p x) (p y) ≤ 0 := h1
      unfold ordI at h1; rw [if_neg (by omega), if_pos h] at h1; omega
    have g2 : ¬ p z < p y := fun h => by
      have h2 : ordI (p y) (p z) ≤ 0 := h2
      unfold ordI at h2; rw [if_neg (by omega), if_pos h] at h2; omega
    show ordI (p x) (p z) ≤ 0
    unfold ordI
    split
    · omega
    · rw [if_neg (by omega)]; omega
theorem compB_TO {α : Type} (p : α → List UInt8) : TO (fun x y => compareB (p x) (p y)) where
  neg x y := cmpB_neg _ _
  range x y := cmpB_range _ _
  trans x y z h1 h2 := cmpB_trans h1 h2
theorem strC_TO {α : Type} (p : α → List UInt8) : TO (fun x y => strC (p x) (p y)) where
  neg x y := by show strC (p y) (p x) = - strC (p x) (p y); rw [strC_cmpI, strC_cmpI]; exact cmpI_neg _ _
  range x y := by
    show -1 ≤ strC (p x) (p y) ∧ strC (p x) (p y) ≤ 1
    rw [strC_cmpI]
    rcases cmpI_range ((p x).map UInt8.toNat) ((p y).map UInt8.toNat) with h | h | h <;> rw [h] <;> decide
  trans x y z h1 h2 := by
    have h1 : strC (p x) (p y) ≤ 0 := h1
    have h2 : strC (p y) (p z) ≤ 0 := h2
    show strC (p x) (p z) ≤ 0
    rw [strC_cmpI] at *; exact cmpI_trans _ _ _ h1 h2
theorem strC_zero (s t : List UInt8) : strC s t = 0 ↔ s = t := by
  unfold strC
  constructor
  · intro h
    split at h
    · cases h
    · split at h
      · assumption
      · cases h
  · rintro rfl
    have hb : strC s s = - strC s s := by rw [strC_cmpI]; exact cmpI_neg _ _
    have : strC s s = 0 := by omega
    unfold strC at this; exact this
def ordL : Nm → Nm → Int := lexO (fun x y => ordI x.kind y.kind) (lexO (fun x y => compareB x.owner y.owner) (lexO (fun x y => ordI x.num y.num) (lexO (fun x y => ordI x.idx y.idx) (fun x y => strC x.text y.text))))
theorem ordN_L (x y : Nm) : ordN x y = ordL x y := by
  unfold ordN ordL lexO
  have k1 := ordI_zero x.kind y.kind
  have k2 := cmpB_zero x.owner y.owner
  have k3 := ordI_zero x.num y.num
  have k4 := ordI_zero x.idx y.idx
  simp only [ne_eq, k1, k2, k3, k4]
theorem ordN_TO : TO ordN := by
  have e : ordN = ordL := funext fun x => funext fun y => ordN_L x y
  rw [e]
  exact (ordI_TO _).lex ((compB_TO _).lex ((ordI_TO _).lex ((ordI_TO _).lex (strC_TO _))))
theorem ordN_zero (x y : Nm) : ordN x y = 0 ↔ x.kind = y.kind ∧ x.owner = y.owner ∧ x.num = y.num ∧ x.idx = y.idx ∧ x.text = y.text := by
  rw [ordN_L]
  unfold ordL
  rw [lexO_zero, lexO_zero, lexO_zero, lexO_zero, ordI_zero, cmpB_zero, ordI_zero, ordI_zero, strC_zero]

theorem wrap_neg (R : Int) (h1 : -1 ≤ R) (h2 : R ≤ 1) : IntKind.i64.wrap (-R) = -R := by
  obtain rfl | rfl | rfl : R = -1 ∨ R = 0 ∨ R = 1 := by omega
  · decide
  · decide
  · decide

end Go.Proofs.YtcdjmkfpclmbdaaGreatDoor
