/- Lists of elements of k cells beside the shelf's contracts for sorting structs: down to the row that holds them, and up again. Of no program. -/
import Derived.Test.YtcdjmkfpclmbdaaGreatDoorQList
import Derived.Shelf.SlSortCmp.NoneTotal
import Derived.Lib.OwnBridge
import Derived.Lib.QuietBelow
set_option linter.unusedVariables false
namespace Go.Proofs.YtcdjmkfpclmbdaaGreatDoor
open Go.RowKit Go.Shelf Go.Lib Go.Sort

section
variable {α : Type} [Inhabited α] {enc : α → List Value} {k : Nat} {e : TypeId}
theorem flat_get (hE : EncK enc k) (l : List α) {j : Nat} (hj : j < l.length * k) : (flatQ enc l)[j]? = some ((flatK enc k l.toArray)[j]!) := by
  have hq : j / k < l.length := (Nat.div_lt_iff_lt_mul hE.pos).2 hj
  have hm : j % k < k := Nat.mod_lt _ hE.pos
  have hv := List.getElem?_eq_getElem hq
  have hu := List.getElem?_eq_getElem (l := enc l[j / k]) (i := j % k) (by rw [hE.len]; exact hm)
  have h1 := flatQ_at hE l (j / k) (j % k) _ _ hv hu
  have ej : j / k * k + j % k = j := by rw [Nat.mul_comm]; exact Nat.div_add_mod j k
  rw [ej] at h1
  rw [h1, get_flatK enc k l.toArray j (by simpa using hj)]
  have e1 : l.toArray[j / k]! = l[j / k] := by rw [getElem!_pos l.toArray (j / k) (by simpa using hq)]; simp
  rw [e1, getElem!_pos (enc l[j / k]) (j % k) (by rw [hE.len]; exact hm)]
/-- DOWN: what a slice owns that is not nil, its row holds. -/
theorem holdsK_of_oq (hE : EncK enc k) {w : World} {base : Nat} {v : Value} {l : List α} (h : OQ enc k e w base v l) (hv : v ≠ .slice none 0 0) :
    ∃ g cap, v = .slice (some ⟨g, 0, none⟩) l.length cap ∧ base ≤ g ∧ g < w.heap.size ∧ l.length ≤ cap ∧ cap ≤ maxLen ∧ HoldsK enc k w g 0 l.toArray := by
  rcases h.2 with ⟨e0, _⟩ | ⟨g, cap, cur, rfl, hb, hg, hn, hm, hs, ht⟩
  · exact absurd e0 hv
  · have hlt : g < w.heap.size := Blk.lt (t := e) hg
    refine ⟨g, cap, rfl, hb, hlt, hn, hm, fun j hj => ?_⟩
    have hj' : j < l.length * k := by simpa using hj
    refine ⟨?_, by simp [World.frozen?, hg]⟩
    have e1 := flat_get hE l hj'
    have hcs : cur.size = cap * k := hs
    have hle : l.length * k ≤ cap * k := Nat.mul_le_mul_right k hn
    rw [← ht, List.getElem?_take, if_pos hj', Array.getElem?_toList] at e1
    rw [Nat.zero_add]
    show w.cell? ⟨g, j, none⟩ = some ((flatK enc k l.toArray)[j]!)
    have hc : w.cell? ⟨g, j, none⟩ = cur[j]? := by simp [World.cell?, hg]
    rw [hc]; exact e1
/-- UP: behind the sort the slice owns what the row holds then; below the row nothing has changed. -/
theorem oq_sorted (hE : EncK enc k) {w : World} {base g cap : Nat} {l ys : List α} (h : OQ enc k e w base (.slice (some ⟨g, 0, none⟩) l.length cap) l) (hy : ys.length = l.length) (q : Nat) (os : Array Obj) :
    OQ enc k e (sortWorldK enc k w g 0 q ys.toArray os) base (.slice (some ⟨g, 0, none⟩) l.length cap) ys ∧ Below base w (sortWorldK enc k w g 0 q ys.toArray os) := by
  rcases h.2 with ⟨e0, _⟩ | ⟨g', cap', cur, e0, hb, hg, hn, hm, hs, ht⟩
  · cases e0
  · injection e0 with e1 _ e3
    injection e1 with e1
    injection e1 with e1
    subst e1; subst e3
    have hlt : g < w.heap.size := Blk.lt (t := e) hg
    have hF : (flatK enc k ys.toArray).size = l.length * k := by rw [size_flatK]; simp [hy]
    have hle : l.length * k ≤ cap * k := Nat.mul_le_mul_right k hn
    have hp : (putRowK enc k (Sort.ahead w q) g 0 ys.toArray).heap[g]? = some (.cells (putCells id 0 (flatK enc k ys.toArray) cur) e (0, 0)) := by
      simp [putRowK, putRow, mapBlock, Sort.ahead, Array.getElem?_modify, hg, onCells]
    have hps : (putRowK enc k (Sort.ahead w q) g 0 ys.toArray).heap.size = w.heap.size := by simp [putRowK, putRow, mapBlock, Sort.ahead]
    have h1 : OQ enc k e (putRowK enc k (Sort.ahead w q) g 0 ys.toArray) base (.slice (some ⟨g, 0, none⟩) l.length cap) ys := by
      unfold OQ
      rw [hy]
      refine ⟨by rw [flatQ_length hE, hy], .inr ⟨g, cap, _, rfl, hb, hp, hn, hm, by simpa [putCells] using hs, ?_⟩⟩
      apply List.ext_getElem?
      intro j
      rw [List.getElem?_take, Array.getElem?_toList]
      by_cases hj : j < l.length * k
      · have hjc : j < cur.size := by omega
        rw [if_pos hj, flat_get hE ys (by rw [hy]; exact hj)]
        simp only [putCells, Array.getElem?_mapIdx, Array.getElem?_eq_getElem hjc, Option.map_some]
        rw [if_pos (by rw [hF]; omega)]
        simp
      · rw [if_neg hj, List.getElem?_eq_none (by rw [flatQ_length hE, hy]; omega)]
    have hB : Below base w (putRowK enc k (Sort.ahead w q) g 0 ys.toArray) := below_putRow (Below.refl base w) hb
    have hG : Below (putRowK enc k (Sort.ahead w q) g 0 ys.toArray).heap.size (putRowK enc k (Sort.ahead w q) g 0 ys.toArray) (sortWorldK enc k w g 0 q ys.toArray os) := below_regrown _ (putRowK enc k (Sort.ahead w q) g 0 ys.toArray).drawn os
    exact ⟨h1.under hG, hB.trans (hG.mono (Nat.le_trans (Nat.le_trans hb (Nat.le_of_lt hlt)) hB.size))⟩
end
end Go.Proofs.YtcdjmkfpclmbdaaGreatDoor
