/- lineage: how the rows open a list of names. Plain lemmas. -/
import Derived.Test.YtdfenaoddbdppaaDoorLRow
import Derived.Test.YtdfenaoddbdppaaDoorLStrsA
import Derived.ChangeSlices
import Derived.SliceStrings
set_option linter.unusedVariables false
namespace Go.Proofs.YtdfenaoddbdppaaDoor
open Go.ChangeShapes Go.WideShapes Go.ChangeAt Go.RowKit
open Go.ChangeMaps (open_string shut_string)

set_option maxRecDepth 100000 in
/-- A list of names that came in. -/
theorem open_names8 {H : Type} {enc : TypeId × Value → H} {W : World} {base : Nat} {v : Value} {d : DataW H} {p : List MemPlace}
    (hv : Value.okWide Tryd.prog W .any base 54 v) (h : DataW.Trod enc Tryd.prog W 0 (fun _ => true) true 54 v d p) :
    ∃ A l cap, v = .slice A (List.length (α := ByteArray) l) cap ∧ RT W W.heap.size A l ∧ l.length ≤ cap ∧ cap ≤ maxLen ∧ ∀ s ∈ l, s.size ≤ maxLen := by
  obtain ⟨a, len, cap, rfl⟩ := okWide_slice Tryd.underlying54 hv
  obtain ⟨fuel, hf⟩ := h
  rcases open_strings Tryd.underlying54 Tryd.underlying23 (by kernel_rfl) hf with ⟨hcs, _⟩ | ⟨x, l, c, ss, hcs, _, hl, hm, hz, _, hcell, hsz⟩
  · simp [Value.cells] at hcs
    obtain ⟨rfl, rfl, rfl⟩ := hcs
    exact ⟨none, [], 0, rfl, RT.nil, Nat.le_refl _, Nat.zero_le _, fun s hs => by cases hs⟩
  · simp [Value.cells] at hcs
    obtain ⟨rfl, rfl, rfl⟩ := hcs
    have hz' : ss.length = cap := by simpa using hz
    have hll : (ss.take len).length = len := by simp; omega
    refine ⟨some x, ss.take len, cap, by rw [hll], fun hn => ?_, by rw [hll]; exact hl, hm, fun s hs => hsz s (List.mem_of_mem_take hs)⟩
    rw [hll] at hn
    obtain ⟨b, off, spot⟩ := x
    have hc0 := hcell 0 (by omega)
    have hspot : spot = none := by simpa [Addr.add] using World.cell?_spot hc0
    subst hspot
    refine ⟨b, off, rfl, by simpa [Addr.add] using World.block_lt_of_cell? W _ hc0, fun j s hj => ?_⟩
    rw [List.getElem?_take] at hj
    split at hj
    · have hjz : j < ss.length := (List.getElem?_eq_some_iff.1 hj).1
      have h1 := hcell j hjz
      rw [Addr.add_lit] at h1
      rw [h1]
      have h2 : ss.getD j ByteArray.empty = s := by simp [List.getD, hj]
      rw [h2]
    · cases hj
end Go.Proofs.YtdfenaoddbdppaaDoor
