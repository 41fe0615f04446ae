/- lineage: the law's short; what is said of Within and Common. -/
import Derived.Test.YtdfenaoddbdppaaDoorLKnown
set_option linter.unusedVariables false
namespace Go.Proofs.YtdfenaoddbdppaaDoor
open Go.RowKit

def shortN (S : ByteArray) : ByteArray := S.extract 0 (min S.size 80)
theorem shortN_size (S : ByteArray) : (shortN S).size ≤ 80 := by unfold shortN; rw [ByteArray.size_extract]; omega
set_option maxRecDepth 100000 in
theorem short_any (S : ByteArray) (w : World) (hS : S.size ≤ maxLen) :
    Calls Tryd.prog 21 #[.string S] w fun e w' => e = .returned (.string (shortN S)) ∧ w' = w := by
  obtain ⟨m, hm, hm1, hm2, hm3⟩ : ∃ m : Nat, min (S.size : Int) 80 = (m : Int) ∧ m ≤ S.size ∧ m ≤ 80 ∧ m = min S.size 80 := ⟨min S.size 80, by omega, by omega, by omega, rfl⟩
  have hm4 : (m : Int) ≤ (S.size : Int) := by omega
  unfold shortN
  rw [← hm3]
  clear hm3
  go_enter Tryd.func21, Tryd.ntmps21
  go_wp2
  go_ret
  exact ⟨rfl, rfl⟩

theorem valid_tx {s : List UInt8} (h : validB s = true) : tx (parseL s).1 = s := (parseL_text (by simpa [validB] using h)).2.2
theorem within_iff {s t : List UInt8} : withinB s t = true ↔ validB s = true ∧ validB t = true ∧ (parseL t).1 <+: (parseL s).1 := by
  unfold withinB; simp [and_assoc]
theorem within_anti {s t : List UInt8} (h : withinB s t = true) (h' : withinB t s = true) : s = t := by
  obtain ⟨h1, h2, h3⟩ := within_iff.1 h
  obtain ⟨_, _, h4⟩ := within_iff.1 h'
  rw [← valid_tx h1, ← valid_tx h2, h4.eq_of_length_le h3.length_le]
theorem within_trans {s t u : List UInt8} (h : withinB s t = true) (h' : withinB t u = true) : withinB s u = true := by
  obtain ⟨h1, h2, h3⟩ := within_iff.1 h
  obtain ⟨_, h5, h4⟩ := within_iff.1 h'
  exact within_iff.2 ⟨h1, h5, h4.trans h3⟩
theorem within_refl (s : List UInt8) : withinB s s = validB s := by
  rw [Bool.eq_iff_iff, within_iff]
  exact ⟨fun h => h.1, fun h => ⟨h, h, List.prefix_refl _⟩⟩
theorem within_nil (s : List UInt8) : withinB s [] = validB s := by
  rw [Bool.eq_iff_iff, within_iff]
  exact ⟨fun h => h.1, fun h => ⟨h, rfl, List.nil_prefix⟩⟩
end Go.Proofs.YtdfenaoddbdppaaDoor
