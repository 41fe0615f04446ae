/- Lists of elements of k cells each: an element is stored; a slice is cut short; the rest of a slice is cleared. Of no program. -/
import Derived.Test.YtcdjmkfpclmbdaaGreatDoorQList
import Derived.Test.YtcdjmkfpclmbdaaGreatDoorOAsg
set_option linter.unusedVariables false
namespace Go.Proofs.YtcdjmkfpclmbdaaGreatDoor
open Go.RowKit

section
variable {α : Type} {enc : α → List Value} {k : Nat} {e : TypeId}
theorem flatQ_get (hE : EncK enc k) {l : List α} {q r : Nat} {v : α} (hv : l[q]? = some v) (hr : r < k) : (flatQ enc l)[q * k + r]? = (enc v)[r]? := by
  have hu := List.getElem?_eq_getElem (l := enc v) (i := r) (by rw [hE.len]; exact hr)
  rw [flatQ_at hE l q r v _ hv hu, hu]
theorem OQ.set {w : World} {base g n cap : Nat} {l : List α} (hE : EncK enc k) (h : OQ enc k e w base (.slice (some ⟨g, 0, none⟩) n cap) l) (j : Nat) (x : α) (hj : j < l.length) :
    OQ enc k e (w.setCells g (j * k) (enc x)) base (.slice (some ⟨g, 0, none⟩) n cap) (l.set j x) ∧ Below base w (w.setCells g (j * k) (enc x)) ∧ w.there g (j * k) (enc x).length := by
  rcases h.2 with ⟨e0, _⟩ | ⟨g', cap', cur, e0, hb, hg, hn, hm, hs, ht⟩
  · cases e0
  · injection e0 with e1 e2 e3
    injection e1 with e1
    injection e1 with e1
    subst e1 e2 e3
    have hB : Blk w g e cur := hg
    obtain ⟨cs', h1, h2⟩ := Blk.sets (enc x) (j * k) w cur hB
    have hjk : j * k + k ≤ cap * k := by rw [← Nat.succ_mul]; exact Nat.mul_le_mul_right k (by omega)
    have hcs : cur.size = cap * k := hs
    have hth : w.there g (j * k) (enc x).length := fun i hi => by
      rw [hE.len] at hi
      rw [hB.cell, hB.frozen, Array.getElem?_eq_getElem (by omega)]
      exact ⟨rfl, rfl⟩
    refine ⟨?_, below_setCells g hb _ _ _ (Below.refl _ _), hth⟩
    unfold OQ
    rw [List.length_set]
    refine ⟨by rw [flatQ_length hE, List.length_set], .inr ⟨g, cap, cs', rfl, hb, h1, hn, hm, by rw [h2]; exact hs, ?_⟩⟩
    apply List.ext_getElem?
    intro i
    rw [List.getElem?_take, Array.getElem?_toList]
    by_cases hi : i < l.length * k
    · rw [if_pos hi]
      have hq : i / k < l.length := (Nat.div_lt_iff_lt_mul hE.pos).2 hi
      have hm' : i % k < k := Nat.mod_lt _ hE.pos
      have ei : i / k * k + i % k = i := by rw [Nat.mul_comm]; exact Nat.div_add_mod i k
      have hold : cur[i]? = (enc l[i / k])[i % k]? := by
        have := flatQ_get hE (List.getElem?_eq_getElem hq) hm'
        rw [ei, ← ht, List.getElem?_take, if_pos hi, Array.getElem?_toList] at this
        exact this
      rw [← h1.cell]
      by_cases hij : i / k = j
      · have hin := World.cell?_setCells_in g (enc x) (j * k) w (fun r hr => (hth r hr).1) (i % k) (by rw [hE.len]; exact hm')
        rw [show j * k + i % k = i by rw [← hij]; exact ei] at hin
        rw [hin]
        have hL : (l.set j x)[i / k]? = some x := by rw [hij, List.getElem?_set_self (by omega)]
        have := flatQ_get hE hL hm'
        have hx := List.getElem?_eq_getElem (l := enc x) (i := i % k) (by rw [hE.len]; exact hm')
        rw [ei, hx] at this
        exact this.symm
      · have hout : i < j * k ∨ j * k + k ≤ i := by
          rcases Nat.lt_or_gt_of_ne hij with h' | h'
          · left; exact (Nat.div_lt_iff_lt_mul hE.pos).1 h'
          · right
            have : (j + 1) * k ≤ i := (Nat.le_div_iff_mul_le hE.pos).1 h'
            rwa [Nat.succ_mul] at this
        rw [World.cell?_setCells_out g (enc x) (j * k) w ⟨g, i, none⟩ (fun _ _ => by rw [hE.len]; exact hout), hB.cell, hold]
        have hL : (l.set j x)[i / k]? = some l[i / k] := by rw [List.getElem?_set_ne (Ne.symm hij), List.getElem?_eq_getElem hq]
        have := flatQ_get hE hL hm'
        rw [ei] at this
        exact this.symm
    · rw [if_neg hi, List.getElem?_eq_none (by rw [flatQ_length hE, List.length_set]; omega)]
theorem OQ.cut {w : World} {base g n cap : Nat} {l : List α} (hE : EncK enc k) (h : OQ enc k e w base (.slice (some ⟨g, 0, none⟩) n cap) l) (m : Nat) (hm : m ≤ l.length) :
    OQ enc k e w base (.slice (some ⟨g, 0, none⟩) m cap) (l.take m) := by
  rcases h.2 with ⟨e0, _⟩ | ⟨g', cap', cur, e0, hb, hg, hn, hmx, hs, ht⟩
  · cases e0
  · injection e0 with e1 e2 e3
    injection e1 with e1
    injection e1 with e1
    subst e1 e2 e3
    have hl : (l.take m).length = m := by rw [List.length_take]; omega
    unfold OQ
    rw [hl]
    refine ⟨by rw [flatQ_length hE, hl], .inr ⟨g, cap, cur, rfl, hb, hg, by omega, hmx, hs, ?_⟩⟩
    have e1 : flatQ enc l = flatQ enc (l.take m) ++ flatQ enc (l.drop m) := by rw [← flatQ_append, List.take_append_drop]
    have e2 : (flatQ enc (l.take m)).length = m * k := by rw [flatQ_length hE, hl]
    have e3 : m * k ≤ l.length * k := Nat.mul_le_mul_right k hm
    have := congrArg (List.take (m * k)) ht
    rw [List.take_take, Nat.min_eq_left e3, e1, List.take_append_of_le_length (Nat.le_of_eq e2.symm), List.take_of_length_le (Nat.le_of_eq e2)] at this
    exact this
theorem OQ.outer {w : World} {base g n cap : Nat} {l : List α} (hE : EncK enc k) (h : OQ enc k e w base (.slice (some ⟨g, 0, none⟩) n cap) l) (o : Nat) (vs : List Value) (ho : l.length * k ≤ o) :
    OQ enc k e (w.setCells g o vs) base (.slice (some ⟨g, 0, none⟩) n cap) l := by
  rcases h.2 with ⟨e0, _⟩ | ⟨g', cap', cur, e0, hb, hg, hn, hm, hs, ht⟩
  · cases e0
  · injection e0 with e1 e2 e3
    injection e1 with e1
    injection e1 with e1
    subst e1 e2 e3
    have hB : Blk w g e cur := hg
    obtain ⟨cs', h1, h2⟩ := Blk.sets vs o w cur hB
    refine ⟨h.1, .inr ⟨g, cap, cs', rfl, hb, h1, hn, hm, by rw [h2]; exact hs, ?_⟩⟩
    rw [← ht]
    apply List.ext_getElem?
    intro i
    rw [List.getElem?_take, List.getElem?_take, Array.getElem?_toList, Array.getElem?_toList]
    split
    · rename_i hi
      rw [← h1.cell, World.cell?_setCells_out g vs o w ⟨g, i, none⟩ (fun _ _ => by left; show i < o; omega), hB.cell]
    · rfl
theorem OQ.there {w : World} {base g n cap : Nat} {l : List α} (h : OQ enc k e w base (.slice (some ⟨g, 0, none⟩) n cap) l) (o m : Nat) (ho : o + m ≤ l.length * k) : w.there g o m := by
  rcases h.2 with ⟨e0, _⟩ | ⟨g', cap', cur, e0, hb, hg, hn, hm, hs, ht⟩
  · cases e0
  · injection e0 with e1 e2 e3
    injection e1 with e1
    injection e1 with e1
    subst e1 e2 e3
    have hB : Blk w g e cur := hg
    have hcs : cur.size = cap * k := hs
    have hle : l.length * k ≤ cap * k := Nat.mul_le_mul_right k hn
    intro i hi
    rw [hB.cell, hB.frozen, Array.getElem?_eq_getElem (by omega)]
    exact ⟨rfl, rfl⟩

variable {P : Program} {t : TypeId} {bytes : Nat}
/-- 'clear(s)', s a slice of structs. -/
theorem run_clearK (hT : TypK P t e k bytes) (w : World) (ty : TypeId) (z : Value) (hv : ∀ w, (zeroValue e).run P w = .ok z w) (h1 : ∀ u ∈ z.cells, u.oneCell' = true) (hz : z.cells.size = k) (hk : 0 < k) (b o n c : Nat) (hth : w.there b o (n * k)) :
    ∃ vs, (Builtin.clear_ #[t] ty #[.slice (some ⟨b, o, none⟩) n c]).run P w = .ok (.tuple #[]) (w.setCells b o vs) := by
  cases n with
  | zero => exact ⟨[], by simp [Builtin.clear_, run_underlying hT.u, World.setCells]⟩
  | succ m =>
    refine ⟨(Builtin.zeroCells z.cells (m + 1)).toList, ?_⟩
    have hlen : (Builtin.zeroCells z.cells (m + 1)).toList.length = (m + 1) * k := by simp [Builtin.zeroCells, hz]
    have hst := run_storeCells_cells (P := P) b o (Builtin.zeroCells z.cells (m + 1)).toList 0 w (fun j hj => by rw [Nat.add_zero]; exact (hth j (by omega)).1) (fun j hj => by rw [Nat.add_zero]; exact (hth j (by omega)).2)
      (fun v hv' => by
        simp only [Builtin.zeroCells, Array.toList_map, Array.toList_range, List.mem_map] at hv'
        obtain ⟨i, _, rfl⟩ := hv'
        have hlt : i % z.cells.size < z.cells.size := Nat.mod_lt _ (by omega)
        rw [getElem!_pos z.cells _ hlt]
        exact h1 _ (Array.getElem_mem hlt))
    simp only [Nat.add_zero] at hst
    simp [Builtin.clear_, run_underlying hT.u, hv, hst]
end
end Go.Proofs.YtcdjmkfpclmbdaaGreatDoor
